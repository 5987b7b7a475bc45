package treadle_test

import (
	"encoding/binary"
	"strconv"
	"strings"
	"testing"

	"treadle/api"
	"treadle/treadle"
)

// words are the instructions' bytes, as the document's table tells them; those of wides that smalls have too begin with w.
var words = map[string]byte{
	"stop": 0, "nothing": 1, "block": 2, "loop": 3, "if": 4, "else": 5, "end": 6,
	"go": 7, "goif": 8, "goby": 9, "return": 10, "call": 11, "drop": 12, "pick": 13, "get": 14, "set": 15, "tee": 16,
	"SMALL": 20, "WIDE": 21,
	"add": 30, "sub": 31, "mul": 32, "div": 33, "rem": 34, "and": 35, "or": 36, "xor": 37, "left": 38, "right": 39,
	"equal": 40, "less": 41, "zero": 42,
	"wadd": 50, "wsub": 51, "wmul": 52, "wdiv": 53, "wrem": 54, "wand": 55, "wor": 56, "wxor": 57, "wleft": 58, "wright": 59,
	"wequal": 60, "wless": 61, "wzero": 62,
	"narrow": 70, "widen": 71,
}

// assemble makes code of a text: words; numbers, which are bytes; small and wide, which give one; small=5 and wide=5, which give that number; and "!", which is no byte but marks a place, told as -1 where there is none.
func assemble(t *testing.T, text string) (code []byte, mark int) {
	t.Helper()
	mark = -1
	for _, word := range strings.Fields(text) {
		if b, ok := words[word]; ok {
			code = append(code, b)
			continue
		}
		switch word {
		case "!":
			mark = len(code)
		case "small":
			code = append(code, 20, 0, 0, 0, 1)
		case "wide":
			code = append(code, 21, 0, 0, 0, 0, 0, 0, 0, 1)
		default:
			code = append(code, bytesOf(t, word)...)
		}
	}
	return code, mark
}

// bytesOf is the bytes of a word with a number.
func bytesOf(t *testing.T, word string) []byte {
	t.Helper()
	name, number, named := strings.Cut(word, "=")
	bits := map[string]int{"small": 32, "wide": 64}[name]
	if n, err := strconv.ParseInt(number, 10, bits); named && bits > 0 && err == nil {
		return constant(n, bits)
	}
	n, err := strconv.ParseUint(word, 10, 8)
	if err != nil {
		t.Fatalf("no word: %q", word)
	}
	return []byte{byte(n)}
}

// constant is the instruction that gives that number.
func constant(n int64, bits int) []byte {
	if bits == 32 {
		return binary.BigEndian.AppendUint32([]byte{words["SMALL"]}, uint32(n))
	}
	return binary.BigEndian.AppendUint64([]byte{words["WIDE"]}, uint64(n))
}

// The signatures of the modules of code, by what they take and give (s a small, w a wide).
const (
	sNone = iota
	sGiveS
	sGiveW
	sSToS
	sSToNone
	sSWToW
	sWSToSWS
	sGiveSW
	sCount
)

// sAll are these signatures.
func sAll() []signature {
	return []signature{{nil, nil}, {nil, []int{1}}, {nil, []int{2}}, {[]int{1}, []int{1}}, {[]int{1}, nil}, {[]int{1, 2}, []int{2}}, {[]int{2, 1}, []int{1, 2, 1}}, {nil, []int{1, 2}}}
}

// oneFunction is a module whose function 0, of that signature, has the code; behind what it takes its locals are a small and a wide. Function 1 takes a small and a wide and gives a wide, function 2 takes a wide and a small and gives a small, a wide and a small.
func oneFunction(signatureOf int, code []byte) built {
	return build(
		sAll(),
		[]function{{signatureOf, []int{1, 2}, code}, {sSWToW, nil, stopped(2)}, {sWSToSWS, nil, stopped(3)}},
	)
}

// answersIn checks what Load answers to a function of that signature with that code; with an error the text marks its place.
func answersIn(t *testing.T, signatureOf int, errno api.Errno, text string) {
	t.Helper()
	code, mark := assemble(t, text)
	if (mark >= 0) != (errno != api.OK) {
		t.Fatalf("%q: a mark is for an error", text)
	}
	b := oneFunction(signatureOf, code)
	start, place := b.starts[0], 0
	if errno != api.OK {
		place = start + mark
	}
	m, e, at := treadle.Load(b.bytes)
	if e != errno || at != place || (m == nil) == (errno == api.OK) {
		t.Errorf("P4: %q: error %d at %d, want %d at %d", text, e, at-start, errno, place-start)
	}
}

// answers is of a function that takes and gives nothing.
func answers(t *testing.T, errno api.Errno, text string) {
	t.Helper()
	answersIn(t, sNone, errno, text)
}

// mayBe checks that all these are loaded.
func mayBe(t *testing.T, texts ...string) {
	t.Helper()
	for _, text := range texts {
		answers(t, api.OK, text)
	}
}

// mayNotBe checks that all these are refused so, at their marks.
func mayNotBe(t *testing.T, errno api.Errno, texts ...string) {
	t.Helper()
	for _, text := range texts {
		answers(t, errno, text)
	}
}
