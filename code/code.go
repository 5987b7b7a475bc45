// Package code reads a function's code, instruction by instruction: what each one is, and what stands behind it.
package code

import (
	"treadle/api"
	"treadle/shape"
)

// The names of the instructions; one of smalls and the same one of wides have one name.
const (
	Stop = iota
	Nothing
	Block
	Loop
	If
	Else
	End
	Go
	GoIf
	GoBy
	Return
	Call
	Drop
	Pick
	Get
	Set
	Tee
	Constant
	Add
	Sub
	Mul
	Div
	Rem
	And
	Or
	Xor
	Left
	Right
	Equal
	Less
	Zero
	Narrow
	Widen
)

// What stands behind an instruction's byte.
const (
	Bare = iota
	Signature
	Function
	Local
	Label
	Labels
	Four
	Eight
)

// Kind is what an instruction is. Takes, Of and Gives (how many it takes, their type, the type of the one that it gives or 0) are told only where they hang on nothing but its byte.
type Kind struct {
	Name   int
	Behind int
	Takes  int
	Of     int
	Gives  int
}

// kinds is what each instruction is, by its byte. A byte that is not here is none.
var kinds = map[byte]Kind{
	0:  {Name: Stop},
	1:  {Name: Nothing},
	2:  {Name: Block, Behind: Signature},
	3:  {Name: Loop, Behind: Signature},
	4:  {Name: If, Behind: Signature},
	5:  {Name: Else},
	6:  {Name: End},
	7:  {Name: Go, Behind: Label},
	8:  {Name: GoIf, Behind: Label},
	9:  {Name: GoBy, Behind: Labels},
	10: {Name: Return},
	11: {Name: Call, Behind: Function},
	12: {Name: Drop},
	13: {Name: Pick},
	14: {Name: Get, Behind: Local},
	15: {Name: Set, Behind: Local},
	16: {Name: Tee, Behind: Local},

	20: {Name: Constant, Behind: Four, Gives: shape.Small},
	21: {Name: Constant, Behind: Eight, Gives: shape.Wide},

	30: {Add, Bare, 2, shape.Small, shape.Small},
	31: {Sub, Bare, 2, shape.Small, shape.Small},
	32: {Mul, Bare, 2, shape.Small, shape.Small},
	33: {Div, Bare, 2, shape.Small, shape.Small},
	34: {Rem, Bare, 2, shape.Small, shape.Small},
	35: {And, Bare, 2, shape.Small, shape.Small},
	36: {Or, Bare, 2, shape.Small, shape.Small},
	37: {Xor, Bare, 2, shape.Small, shape.Small},
	38: {Left, Bare, 2, shape.Small, shape.Small},
	39: {Right, Bare, 2, shape.Small, shape.Small},
	40: {Equal, Bare, 2, shape.Small, shape.Small},
	41: {Less, Bare, 2, shape.Small, shape.Small},
	42: {Zero, Bare, 1, shape.Small, shape.Small},

	50: {Add, Bare, 2, shape.Wide, shape.Wide},
	51: {Sub, Bare, 2, shape.Wide, shape.Wide},
	52: {Mul, Bare, 2, shape.Wide, shape.Wide},
	53: {Div, Bare, 2, shape.Wide, shape.Wide},
	54: {Rem, Bare, 2, shape.Wide, shape.Wide},
	55: {And, Bare, 2, shape.Wide, shape.Wide},
	56: {Or, Bare, 2, shape.Wide, shape.Wide},
	57: {Xor, Bare, 2, shape.Wide, shape.Wide},
	58: {Left, Bare, 2, shape.Wide, shape.Wide},
	59: {Right, Bare, 2, shape.Wide, shape.Wide},
	60: {Equal, Bare, 2, shape.Wide, shape.Small},
	61: {Less, Bare, 2, shape.Wide, shape.Small},
	62: {Zero, Bare, 1, shape.Wide, shape.Small},

	70: {Narrow, Bare, 1, shape.Wide, shape.Small},
	71: {Widen, Bare, 1, shape.Small, shape.Wide},
}

// Step is one instruction of a function: its kind, the signature, function, local or labels that it names, the number that it gives, and where in the code the next one begins.
type Step struct {
	Kind
	Indexes []int
	Number  int64
	Next    int
}

// Read reads the instruction that begins at that place of the function's code, or panics with a Fault. Whether what it names is there is not asked.
func Read(f shape.Function, at int) Step {
	r := &reader{f.Code, at, shape.Fault{Errno: api.ErrCode, Place: f.Start + at}}
	kind, known := kinds[r.next()]
	if !known {
		panic(r.fault)
	}
	indexes, number := r.behind(kind.Behind)
	return Step{kind, indexes, number, r.at}
}

// reader goes through the bytes of one instruction; whatever is wrong with them, it is the instruction's fault.
type reader struct {
	code  []byte
	at    int
	fault shape.Fault
}

// take is the next bytes, so many of them.
func (r *reader) take(count int) []byte {
	if count > len(r.code)-r.at {
		panic(r.fault)
	}
	r.at += count
	return r.code[r.at-count : r.at]
}

func (r *reader) next() byte { return r.take(1)[0] }

// behind reads what stands behind the instruction's byte: indexes, or a number.
func (r *reader) behind(what int) ([]int, int64) {
	switch what {
	case Signature, Function, Local, Label:
		return r.indexes(1), 0
	case Labels:
		return r.indexes(r.ahead() + 1), 0
	case Four:
		return nil, int64(int32(r.number(4)))
	case Eight:
		return nil, int64(r.number(8))
	}
	return nil, 0
}

// ahead is how many labels stand ahead of the last one.
func (r *reader) ahead() int {
	n := int(r.next())
	if n > api.MaxBy {
		panic(r.fault)
	}
	return n
}

func (r *reader) indexes(count int) []int {
	list := make([]int, count)
	for i, b := range r.take(count) {
		list[i] = int(b)
	}
	return list
}

// number is the number of the next bytes, without a sign.
func (r *reader) number(bytes int) uint64 {
	var n uint64
	for _, b := range r.take(bytes) {
		n = n<<8 | uint64(b)
	}
	return n
}
