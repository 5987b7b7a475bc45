package treadle_test

import (
	"slices"
	"strings"
	"testing"

	"treadle/api"
)

// row is an instruction, in a function of the signature in: what it takes and gives (s a small, w a wide, the last one last), what closes a block that it has opened, and whether it is never gone on behind it.
type row struct {
	in               int
	op, takes, gives string
	closing          string
	leaves           bool
}

var rows = []row{
	{sNone, "stop", "", "", "", true},
	{sNone, "nothing", "", "", "", false},
	{sNone, "block 0", "", "", "end", false},
	{sNone, "block 5", "sw", "sw", "wide end set 1", false},
	{sNone, "block 6", "ws", "ws", "small wide small end set 0 set 1 set 0", false},
	{sNone, "loop 0", "", "", "end", false},
	{sNone, "loop 5", "sw", "sw", "wide end set 1", false},
	{sNone, "loop 6", "ws", "ws", "small wide small end set 0 set 1 set 0", false},
	{sNone, "if 0", "s", "", "end", false},
	{sNone, "if 3", "ss", "s", "small end set 0", false},
	{sNone, "if 5", "sws", "sw", "wide else set 1 set 0 wide end set 1", false},
	{sNone, "if 6", "wss", "ws", "stop else stop end set 0 set 1 set 0", false},
	{sNone, "go 0", "", "", "", true},
	{sGiveS, "go 0", "s", "", "", true},
	{sGiveSW, "go 0", "sw", "", "", true},
	{sNone, "goif 0", "s", "", "", false},
	{sGiveS, "goif 0", "ss", "s", "", false},
	{sGiveSW, "goif 0", "sws", "sw", "", false},
	{sNone, "goby 0 0", "s", "", "", true},
	{sGiveS, "goby 1 0 0", "ss", "", "", true},
	{sGiveSW, "goby 2 0 0 0", "sws", "", "", true},
	{sNone, "return", "", "", "", true},
	{sGiveS, "return", "s", "", "", true},
	{sGiveSW, "return", "sw", "", "", true},
	{sNone, "call 0", "", "", "", false},
	{sNone, "call 1", "sw", "w", "", false},
	{sNone, "call 2", "ws", "sws", "", false},
	{sNone, "get 0", "", "s", "", false},
	{sNone, "get 1", "", "w", "", false},
	{sNone, "set 0", "s", "", "", false},
	{sNone, "set 1", "w", "", "", false},
	{sNone, "tee 0", "s", "s", "", false},
	{sNone, "tee 1", "w", "w", "", false},
	{sNone, "SMALL 1 2 3 4", "", "s", "", false},
	{sNone, "WIDE 1 2 3 4 5 6 7 8", "", "w", "", false},
	{sNone, "zero", "s", "s", "", false},
	{sNone, "wzero", "w", "s", "", false},
	{sNone, "narrow", "w", "s", "", false},
	{sNone, "widen", "s", "w", "", false},
}

// allRows has those of two numbers, too.
func allRows() []row {
	all := slices.Clone(rows)
	for _, name := range strings.Fields("add sub mul div rem and or xor left right equal less") {
		wide := "w"
		if name == "equal" || name == "less" {
			wide = "s"
		}
		all = append(all, row{sNone, name, "ss", "s", "", false}, row{sNone, "w" + name, "ww", wide, "", false})
	}
	return all
}

// pushes gives such types.
func pushes(types string) string {
	return strings.NewReplacer("s", "small ", "w", "wide ").Replace(types)
}

// pops takes such types, from the last to the first.
func pops(types string) string {
	text := ""
	for _, t := range types {
		text = string(t) + text
	}
	return strings.NewReplacer("s", "set 0 ", "w", "set 1 ").Replace(text)
}

// swapped is the types with another one at i.
func swapped(types string, i int) string {
	b := []byte(types)
	b[i] = 's' + 'w' - b[i]
	return string(b)
}

// tail is what follows when the row's instruction is done.
func (r row) tail(under string) string {
	results := map[int]string{sGiveS: "s", sGiveSW: "sw"}[r.in]
	return pops(r.gives) + r.closing + " " + pops(under) + pushes(results) + "end"
}

func TestTableHasAllInstructions(t *testing.T) {
	left := map[byte]bool{}
	for _, b := range words {
		left[b] = true
	}
	for _, r := range allRows() {
		delete(left, words[strings.Fields(r.op)[0]])
	}
	// Those that have tests of their own.
	for _, name := range []string{"else", "end", "drop", "pick"} {
		delete(left, words[name])
	}
	if len(left) != 0 {
		t.Errorf("no row for %v", left)
	}
}

func TestWhatEachInstructionAsksFor(t *testing.T) {
	for _, r := range allRows() {
		answersIn(t, r.in, api.OK, pushes(r.takes)+r.op+" "+r.tail(""))
		for _, under := range []string{"s", "w", "ws"} {
			answersIn(t, r.in, api.OK, pushes(under+r.takes)+r.op+" "+r.tail(under))
		}
	}
}

func TestTooLittleOnTheStack(t *testing.T) {
	for _, r := range allRows() {
		for i := range r.takes {
			answersIn(t, r.in, api.ErrType, pushes(r.takes[i+1:])+"! "+r.op+" "+r.tail(""))
			answersIn(t, r.in, api.ErrType, pushes(r.takes[:i])+"! "+r.op+" "+r.tail(""))
		}
		if r.takes != "" && !strings.HasPrefix(r.op, "go") {
			// What lies below the frame's height is not the frame's.
			answersIn(t, r.in, api.ErrType, pushes(r.takes)+"block 0 ! "+r.op+" stop end stop end")
			answersIn(t, r.in, api.ErrType, pushes(r.takes)+"loop 0 "+pushes(r.takes[1:])+"! "+r.op+" stop end stop end")
		}
	}
}

func TestAnotherTypeOnTheStack(t *testing.T) {
	for _, r := range allRows() {
		for i := range r.takes {
			other := pushes(swapped(r.takes, i))
			answersIn(t, r.in, api.ErrType, other+"! "+r.op+" "+r.tail(""))
			answersIn(t, r.in, api.ErrType, "stop "+other+"! "+r.op+" "+r.tail(""))
			answersIn(t, r.in, api.ErrType, "stop "+pushes(swapped(r.takes, i)[i:])+"! "+r.op+" "+r.tail(""))
		}
	}
}

func TestWhatEachInstructionGives(t *testing.T) {
	for _, r := range allRows() {
		if r.gives == "" && !r.leaves {
			answersIn(t, r.in, api.ErrType, pushes(r.takes)+r.op+" ! drop stop end stop end")
		}
		for i := range r.gives {
			other := pops(swapped(r.gives, i)[i:])
			wrong := pops(r.gives[i+1:]) + "! " + strings.TrimPrefix(other, pops(r.gives[i+1:]))
			answersIn(t, r.in, api.ErrType, pushes(r.takes)+r.op+" "+wrong+"stop end")
			answersIn(t, r.in, api.ErrType, "stop "+r.op+" "+wrong+"stop end")
		}
		if r.gives != "" {
			answersIn(t, r.in, api.ErrType, pushes(r.takes)+r.op+" "+pops(r.gives)+"! drop stop end")
		}
	}
}

func TestBehindAStopAnyTypeIsTaken(t *testing.T) {
	for _, r := range allRows() {
		answersIn(t, r.in, api.OK, "stop "+r.op+" "+r.tail(""))
		for i := range r.takes {
			answersIn(t, r.in, api.OK, "stop "+pushes(r.takes[i:])+r.op+" "+r.tail(""))
		}
	}
}

func TestDrop(t *testing.T) {
	mayBe(t, "small drop end", "wide drop end", "small wide drop set 0 end", "wide small drop set 1 end", "stop drop drop end", "stop wide drop drop small drop end")
	mayNotBe(t, api.ErrType,
		"! drop end",
		"small drop ! drop end",
		"small block 0 ! drop end drop end",
		"small wide drop ! set 1 end",
		"stop small wide drop ! set 1 end",
		"block 0 stop end ! drop end",
	)
}

func TestPick(t *testing.T) {
	for _, types := range []string{"sss", "ssw", "sws", "sww", "wss", "wsw", "wws", "www"} {
		if types == "sss" || types == "wws" {
			mayBe(t, pushes(types)+"pick "+pops(types[:1])+"end", "stop "+pushes(types)+"pick "+pops(types[:1])+"end", pushes("ws"+types)+"pick "+pops("ws"+types[:1])+"end")
			mayNotBe(t, api.ErrType, pushes(types)+"pick ! "+pops(swapped(types[:1], 0))+"stop end", pushes(types)+"pick drop ! drop end", pushes(types)+"pick ! end")
			continue
		}
		mayNotBe(t, api.ErrType, pushes(types)+"! pick stop end", "stop "+pushes(types)+"! pick stop end")
	}
	mayNotBe(t, api.ErrType, "! pick stop end", "small ! pick stop end", "small small ! pick stop end", "wide small ! pick stop end", "small small block 0 small ! pick stop end stop end", "small block 0 small small ! pick stop end stop end")
}

func TestPickWithAny(t *testing.T) {
	mayBe(t,
		"stop small small pick set 0 end",
		"stop wide small pick set 1 end",
		"stop small pick set 0 end",
		"stop small pick set 1 end",
		"stop pick set 0 end",
		"stop pick set 1 end",
		"stop pick drop end",
		"stop pick add drop end",
		"stop pick wadd drop end",
		"stop pick pick wzero drop end",
		"stop pick small pick set 1 end",
		"stop pick wide small pick set 1 end",
		"stop pick small small pick set 0 end",
		"stop pick widen set 1 end",
		"stop pick block 5 stop end set 1 end",
		"stop pick if 0 end end",
	)
	mayNotBe(t, api.ErrType,
		"stop small small pick ! set 1 end",
		"stop wide small pick ! set 0 end",
		"stop wide ! pick stop end",
		"stop small wide small ! pick stop end",
		"stop pick wide small pick ! set 0 end",
		"stop pick small small pick ! set 1 end",
		"stop pick wide ! pick stop end",
		"stop pick ! end",
		"stop pick drop pick ! end",
		"stop pick wide small pick wide ! xor stop end",
	)
	answersIn(t, sGiveS, api.OK, "stop pick end")
	answersIn(t, sGiveW, api.OK, "stop pick end")
	answersIn(t, sGiveSW, api.OK, "stop pick wide end")
	answersIn(t, sGiveSW, api.ErrType, "stop pick small ! end")
}
