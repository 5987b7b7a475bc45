package treadle_test

import (
	"fmt"
	"testing"

	"treadle/api"
	"treadle/treadle"
)

// part is a function of a module that is run: what it takes, gives and has more (s a small, w a wide), and its code as words.
type part struct{ takes, gives, more, text string }

// typesOf is the types of a text of s and w.
func typesOf(text string) []int {
	var list []int
	for _, letter := range text {
		list = append(list, map[rune]int{'s': 1, 'w': 2}[letter])
	}
	return list
}

// The signatures for blocks that every module of parts has: those of the parts stand behind them.
const (
	bNone = iota // takes and gives nothing
	bToS
	bSToS
	bToSW
	bSWToSW
	bSToNone
	bSSToS
	bCount
)

// program is a module of these parts.
func program(t *testing.T, parts ...part) *treadle.Module {
	t.Helper()
	return isLoaded(t, programBytes(t, parts...))
}

func programBytes(t *testing.T, parts ...part) []byte {
	t.Helper()
	signatures := make([]signature, bCount)
	for i, text := range [bCount][2]string{{"", ""}, {"", "s"}, {"s", "s"}, {"", "sw"}, {"sw", "sw"}, {"s", ""}, {"ss", "s"}} {
		signatures[i] = signature{typesOf(text[0]), typesOf(text[1])}
	}
	var functions []function
	for _, p := range parts {
		code, _ := assemble(t, p.text)
		functions = append(functions, function{len(signatures), typesOf(p.more), code})
		signatures = append(signatures, signature{typesOf(p.takes), typesOf(p.gives)})
	}
	return build(signatures, functions).bytes
}

// told is an Outcome as a text: its end, steps and values.
func told(o api.Outcome) string {
	ends := []string{"Done", "Stopped", "Zero", "Over", "Fuel", "Deep"}
	if o.End < 0 || int(o.End) >= len(ends) {
		return fmt.Sprint("no end: ", int(o.End))
	}
	return fmt.Sprint(ends[o.End], " ", o.Steps, " ", append([]int64{}, o.Values...))
}

// outcome is what Run answers, which must be no error.
func outcome(t *testing.T, m *treadle.Module, f int, args []int64, fuel int) string {
	t.Helper()
	o, e := m.Run(f, args, fuel)
	if e != api.OK {
		t.Fatalf("P6: Run(%d, %v, %d): error %d", f, args, fuel, e)
	}
	if o.End != api.Done && len(o.Values) != 0 {
		t.Errorf("P1: Run(%d, %v, %d): values of a run that is not Done: %v", f, args, fuel, o)
	}
	return told(o)
}

// runs checks what Run of function 0 of these parts answers, with fuel enough.
func runs(t *testing.T, want string, args []int64, parts ...part) {
	t.Helper()
	if got := outcome(t, program(t, parts...), 0, args, 100000); got != want {
		t.Errorf("P7: %q of %v: %s, want %s", parts[0].text, args, got, want)
	}
}

// does checks what Run answers of code in a function that takes one small and gives one; it has a small and a wide more.
func does(t *testing.T, want string, arg int64, text string) {
	t.Helper()
	runs(t, want, []int64{arg}, part{"s", "s", "sw", text})
}
