// Package shape reads the form of a module: all that stands in it, byte by byte, without a look at what the code says.
package shape

import (
	"slices"

	"treadle/api"
)

// The types, as a module tells them.
const (
	Small = 1
	Wide  = 2
)

// head is what every module begins with.
const head = "TR\x01"

// Signature is what a function or a block takes and gives, as types.
type Signature struct {
	Takes []int
	Gives []int
}

// Function is one of a module's functions; Start is the place of its code in the module, by which a fault in it is told.
type Function struct {
	Signature int
	Locals    []int
	Start     int
	Code      []byte
}

// Module is all that the bytes of a module tell. It shares no memory with them.
type Module struct {
	Signatures []Signature
	Functions  []Function
}

// Fault is what a reader gives up with, by panic: what is wrong, and where.
type Fault struct {
	Errno api.Errno
	Place int
}

// Read reads a whole module, or panics with the Fault that shows first.
func Read(module []byte) *Module {
	if len(module) > api.MaxModule {
		panic(Fault{api.ErrLong, 0})
	}
	r := &reader{bytes: module}
	r.head()
	signatures := r.signatures()
	functions := r.functions(len(signatures))
	r.finish()
	return &Module{signatures, functions}
}

// reader goes through a module's bytes; at is the place of the next one.
type reader struct {
	bytes []byte
	at    int
}

func (r *reader) giveUp(place int) {
	panic(Fault{api.ErrForm, place})
}

// next is the next byte.
func (r *reader) next() int {
	if r.at == len(r.bytes) {
		r.giveUp(len(r.bytes))
	}
	r.at++
	return int(r.bytes[r.at-1])
}

// number is the next byte, which must be from least to most.
func (r *reader) number(least, most int) int {
	place := r.at
	n := r.next()
	if n < least || n > most {
		r.giveUp(place)
	}
	return n
}

// number2 is the number of the next two bytes, which must be from least to most. It is judged only when both are there.
func (r *reader) number2(least, most int) int {
	place := r.at
	high := r.next()
	n := high<<8 | r.next()
	if n < least || n > most {
		r.giveUp(place)
	}
	return n
}

func (r *reader) head() {
	for i := range len(head) {
		r.number(int(head[i]), int(head[i]))
	}
}

// types reads how many types there are, at most most, and these.
func (r *reader) types(most int) []int {
	types := make([]int, r.number(0, most))
	for i := range types {
		types[i] = r.number(Small, Wide)
	}
	return types
}

func (r *reader) signatures() []Signature {
	signatures := make([]Signature, r.number(1, api.MaxCount))
	for i := range signatures {
		takes := r.types(api.MaxTypes)
		gives := r.types(api.MaxResults)
		signatures[i] = Signature{takes, gives}
	}
	return signatures
}

func (r *reader) functions(signatures int) []Function {
	functions := make([]Function, r.number(1, api.MaxCount))
	for i := range functions {
		functions[i] = r.function(signatures)
	}
	return functions
}

func (r *reader) function(signatures int) Function {
	signature := r.number(0, signatures-1)
	locals := r.types(api.MaxLocals)
	length := r.number2(1, api.MaxCode)
	start := r.at
	return Function{signature, locals, start, r.code(length)}
}

// code copies the code, since the module is not ours to keep.
func (r *reader) code(length int) []byte {
	if length > len(r.bytes)-r.at {
		r.giveUp(len(r.bytes))
	}
	start := r.at
	r.at += length
	return slices.Clone(r.bytes[start:r.at])
}

func (r *reader) finish() {
	if r.at < len(r.bytes) {
		r.giveUp(r.at)
	}
}
