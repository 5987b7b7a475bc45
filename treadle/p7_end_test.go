package treadle_test

import (
	"fmt"
	"strings"
	"testing"
)

// ending is a run that ends so, after so many steps.
type ending struct {
	end   string
	steps int
	arg   int64
	parts []part
}

// one is a function that takes a small and gives one.
func one(text string) []part { return []part{{"s", "s", "", text}} }

// called is that function, called by another one in its fourth step.
func called(text string) []part {
	return []part{{"s", "s", "", "nothing nothing get 0 call 1 small=9 add end"}, {"s", "s", "", text}}
}

// down calls itself as often as the small says.
const down = "get 0 if 0 get 0 small=1 sub call 0 drop end small=9 end"

func allEndings() []ending {
	return []ending{
		{"Done", 2, 0, one("get 0 end")},
		{"Done", 2, 0, one("get 0 return end")},
		{"Done", 2, 0, one("get 0 go 0 end")},
		{"Done", 19, 3, one("loop 0 get 0 small=1 sub tee 0 goif 0 end get 0 end")},
		{"Done", 9, 0, called("get 0 end")},
		{"Stopped", 1, 0, one("stop end")},
		{"Stopped", 3, 0, one("nothing nothing stop end")},
		{"Stopped", 6, 0, one("small=1 wide=1 block 0 loop 0 nothing stop end end stop end")},
		{"Stopped", 3, 1, one("get 0 if 0 stop end small=9 end")},
		{"Stopped", 6, 0, called("nothing stop end")},
		{"Zero", 3, 0, one("small=5 get 0 div end")},
		{"Zero", 3, 0, one("small=5 get 0 rem end")},
		{"Zero", 3, 0, one("get 0 get 0 div end")},
		{"Zero", 3, 0, one("small=-2147483648 get 0 div end")},
		{"Zero", 4, 0, one("wide=5 get 0 widen wdiv narrow end")},
		{"Zero", 4, 0, one("wide=5 get 0 widen wrem narrow end")},
		{"Zero", 7, 0, called("small=5 get 0 div end")},
		{"Over", 3, -1, one("small=-2147483648 get 0 div end")},
		{"Over", 4, -1, one("wide=-9223372036854775808 get 0 widen wdiv narrow end")},
		{"Over", 7, -1, called("small=-2147483648 get 0 div end")},
		{"Done", 40*6 + 4 + 40*4, 40, one(down)},
		{"Deep", 41 * 6, 41, one(down)},
		{"Deep", 41 * 6, 42, one(down)},
		{"Deep", 41 * 6, -1, one(down)},
		{"Deep", 41 * 2, 0, one("get 0 call 0 end")},
		{"Deep", 4 + 40*2, 0, called("get 0 call 1 end")},
	}
}

// With less fuel than it needs a run ends by Fuel, with as much or more of it as it does.
func TestEndings(t *testing.T) {
	for _, e := range allEndings() {
		m := program(t, e.parts...)
		for _, fuel := range []int{0, 1, e.steps - 1, e.steps, e.steps + 1, 100000} {
			want := fmt.Sprint(e.end, " ", e.steps, " ")
			if fuel < e.steps {
				want = fmt.Sprint("Fuel ", fuel, " []")
			}
			got := outcome(t, m, 0, []int64{e.arg}, fuel)
			if !strings.HasPrefix(got, want) {
				t.Errorf("P7: %q of %d with fuel %d: %s, want %s", e.parts[0].text, e.arg, fuel, got, want)
			}
		}
	}
}

// Whatever fuel there is: just so many instructions are done.
func TestEveryFuel(t *testing.T) {
	m := program(t, one(down)...)
	const needs = 3*6 + 4 + 3*4
	for fuel := range 2 * needs {
		want := "Done 34 [9]"
		if fuel < needs {
			want = fmt.Sprint("Fuel ", fuel, " []")
		}
		if got := outcome(t, m, 0, []int64{3}, fuel); got != want {
			t.Errorf("P7: with fuel %d: %s, want %s", fuel, got, want)
		}
	}
}
