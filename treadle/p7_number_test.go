package treadle_test

import (
	"fmt"
	"math"
	"math/big"
	"testing"

	"treadle/api"
	"treadle/treadle"
)

// kinds of numbers: of how many bits, the letter of the type, and what an instruction's word begins with.
type numbers struct {
	bits   int
	letter string
	begins string
}

var (
	smalls = numbers{32, "s", ""}
	wides  = numbers{64, "w", "w"}
)

// least is the least number of the kind, greatest the greatest.
func (n numbers) least() int64    { return -1 << (n.bits - 1) }
func (n numbers) greatest() int64 { return -1 - n.least() }

// ofTwo is a function that takes two numbers and gives what the instruction makes of them.
func (n numbers) ofTwo(t *testing.T, word, gives string) *treadle.Module {
	t.Helper()
	return program(t, part{n.letter + n.letter, gives, "", "get 0 get 1 " + n.begins + word + " end"})
}

// gives is the type that the instruction gives.
func (n numbers) gives(word string) string {
	if word == "equal" || word == "less" {
		return "s"
	}
	return n.letter
}

func TestOfTwo(t *testing.T) {
	for _, c := range []struct {
		word          string
		first, second int64
		want          string
	}{
		{"add", 5, 7, "12"}, {"add", -5, 7, "2"}, {"sub", 5, 7, "-2"}, {"sub", -5, -7, "2"}, {"mul", -5, 7, "-35"}, {"mul", 0, 7, "0"},
		{"div", 7, 2, "3"}, {"div", -7, 2, "-3"}, {"div", 7, -2, "-3"}, {"div", -7, -2, "3"}, {"div", 1, 2, "0"}, {"div", -1, 2, "0"}, {"div", 0, -2, "0"}, {"div", 7, -1, "-7"},
		{"rem", 7, 2, "1"}, {"rem", -7, 2, "-1"}, {"rem", 7, -2, "1"}, {"rem", -7, -2, "-1"}, {"rem", 6, -2, "0"}, {"rem", 1, 2, "1"}, {"rem", -1, 2, "-1"}, {"rem", 7, -1, "0"},
		{"div", 7, 0, "Zero"}, {"div", 0, 0, "Zero"}, {"div", -7, 0, "Zero"}, {"rem", 7, 0, "Zero"}, {"rem", 0, 0, "Zero"}, {"rem", -7, 0, "Zero"},
		{"and", 12, 10, "8"}, {"and", -1, 10, "10"}, {"and", -4, -6, "-8"}, {"or", 12, 10, "14"}, {"or", -4, 1, "-3"}, {"xor", 12, 10, "6"}, {"xor", 12, -1, "-13"}, {"xor", -1, -1, "0"},
		{"left", 3, 0, "3"}, {"left", 3, 4, "48"}, {"left", -3, 4, "-48"}, {"right", 48, 4, "3"}, {"right", -5, 1, "-3"}, {"right", -1, 5, "-1"}, {"right", 3, 0, "3"},
		{"equal", 4, 4, "1"}, {"equal", 4, 5, "0"}, {"equal", -4, 4, "0"}, {"less", 4, 5, "1"}, {"less", 5, 4, "0"}, {"less", 4, 4, "0"}, {"less", -1, 0, "1"}, {"less", 0, -1, "0"},
	} {
		for _, n := range []numbers{smalls, wides} {
			want := "Done 4 [" + c.want + "]"
			if c.want == "Zero" {
				want = "Zero 3 []"
			}
			m := n.ofTwo(t, c.word, n.gives(c.word))
			if got := outcome(t, m, 0, []int64{c.first, c.second}, 9); got != want {
				t.Errorf("P7: %s of %d bits, of %d and %d: %s, want %s", c.word, n.bits, c.first, c.second, got, want)
			}
		}
	}
}

func TestGoingRound(t *testing.T) {
	for _, n := range []numbers{smalls, wides} {
		least, greatest := n.least(), n.greatest()
		for _, c := range []struct {
			word          string
			first, second int64
			want          int64
		}{
			{"add", greatest, 1, least}, {"add", least, -1, greatest}, {"add", least, least, 0}, {"add", greatest, greatest, -2},
			{"sub", least, 1, greatest}, {"sub", greatest, -1, least}, {"sub", 0, least, least}, {"sub", -2, greatest, greatest},
			{"mul", greatest, 2, -2}, {"mul", least, -1, least}, {"mul", least, 2, 0}, {"mul", greatest, greatest, 1},
			{"left", 1, int64(n.bits - 1), least}, {"left", greatest, 1, -2}, {"left", least, 1, 0},
			{"rem", least, -1, 0}, {"div", least, 1, least}, {"div", greatest, -1, least + 1}, {"div", least, least, 1}, {"div", least, 2, least / 2}, {"rem", least, greatest, -1},
		} {
			want := fmt.Sprintf("Done 4 [%d]", c.want)
			if got := outcome(t, n.ofTwo(t, c.word, n.letter), 0, []int64{c.first, c.second}, 9); got != want {
				t.Errorf("P7: %s of %d bits, of %d and %d: %s, want %s", c.word, n.bits, c.first, c.second, got, want)
			}
		}
		if got := outcome(t, n.ofTwo(t, "div", n.letter), 0, []int64{least, -1}, 9); got != "Over 3 []" {
			t.Errorf("P7: div of %d bits, of the least number by -1: %s", n.bits, got)
		}
	}
	if got := outcome(t, wides.ofTwo(t, "div", "w"), 0, []int64{-1 << 31, -1}, 9); got != "Done 4 [2147483648]" {
		t.Errorf("P7: div of the least small as a wide by -1: %s", got)
	}
}

func TestMovingModuloTheBits(t *testing.T) {
	for _, n := range []numbers{smalls, wides} {
		bits, first := int64(n.bits), n.least()>>1|5
		left, right := n.ofTwo(t, "left", n.letter), n.ofTwo(t, "right", n.letter)
		for by := range bits {
			for _, second := range []int64{by, by + bits, by - bits, by - 2*bits, by + 5*bits} {
				if got, want := outcome(t, left, 0, []int64{first, second}, 9), fmt.Sprintf("Done 4 [%d]", n.moved(first, int(by))); got != want {
					t.Errorf("P7: left of %d bits by %d: %s, want %s", bits, second, got, want)
				}
				if got, want := outcome(t, right, 0, []int64{n.least(), second}, 9), fmt.Sprintf("Done 4 [%d]", n.least()>>by); got != want {
					t.Errorf("P7: right of %d bits by %d: %s, want %s", bits, second, got, want)
				}
				if got, want := outcome(t, right, 0, []int64{n.greatest(), second}, 9), fmt.Sprintf("Done 4 [%d]", n.greatest()>>by); got != want {
					t.Errorf("P7: right of %d bits by %d: %s, want %s", bits, second, got, want)
				}
			}
		}
		for _, second := range []int64{n.least(), n.greatest() - 63} {
			if got := outcome(t, left, 0, []int64{3, second}, 9); got != "Done 4 [3]" {
				t.Errorf("P7: left of %d bits by %d: %s", bits, second, got)
			}
		}
	}
}

// moved is the number moved left, as the kind's own number.
func (n numbers) moved(number int64, by int) int64 {
	return n.round(new(big.Int).Lsh(big.NewInt(number), uint(by)))
}

// round is the number that is left of a greater one, reckoned without the language's own going round.
func (n numbers) round(exact *big.Int) int64 {
	all := new(big.Int).Lsh(big.NewInt(1), uint(n.bits))
	rest := new(big.Int).Mod(exact, all)
	if rest.Bit(n.bits-1) == 1 {
		rest.Sub(rest, all)
	}
	return rest.Int64()
}

func (n numbers) rounded(number int64) int64 { return n.round(big.NewInt(number)) }

// exactly is what the instruction makes of two numbers, and how a run ends if it can't.
func (n numbers) exactly(word string, first, second int64) (int64, api.End) {
	x, y, z := big.NewInt(first), big.NewInt(second), new(big.Int)
	by := uint(new(big.Int).Mod(y, big.NewInt(int64(n.bits))).Int64())
	switch word {
	case "add":
		z.Add(x, y)
	case "sub":
		z.Sub(x, y)
	case "mul":
		z.Mul(x, y)
	case "div", "rem":
		if second == 0 {
			return 0, api.Zero
		}
		rest := new(big.Int)
		z.QuoRem(x, y, rest)
		if word == "rem" {
			z = rest
		} else if z.Cmp(big.NewInt(n.greatest())) > 0 {
			return 0, api.Over
		}
	case "and":
		z.And(x, y)
	case "or":
		z.Or(x, y)
	case "xor":
		z.Xor(x, y)
	case "left":
		z.Lsh(x, by)
	case "right":
		z.Rsh(x, by)
	case "equal":
		return oneIf(x.Cmp(y) == 0), api.Done
	case "less":
		return oneIf(x.Cmp(y) < 0), api.Done
	}
	return n.round(z), api.Done
}

func oneIf(holds bool) int64 {
	if holds {
		return 1
	}
	return 0
}

// edges are numbers at which something changes.
func (n numbers) edges() []int64 {
	list := []int64{0, 1, 2, 3, 7, 31, 32, 33, 63, 64, 65, 1 << 15, 1 << 16, 46341, 0x55555555, n.greatest(), n.greatest() - 1, n.greatest() / 2, n.greatest()/2 + 1, n.greatest() / 3}
	for _, e := range list {
		list = append(list, -e, -1-e)
	}
	return list
}

func TestAllOfTwoAtEdges(t *testing.T) {
	for _, n := range []numbers{smalls, wides} {
		edges := n.edges()
		for _, word := range []string{"add", "sub", "mul", "div", "rem", "and", "or", "xor", "left", "right", "equal", "less"} {
			m := n.ofTwo(t, word, n.gives(word))
			for _, first := range edges {
				for _, second := range edges {
					want := api.Outcome{Steps: 3}
					var value int64
					if value, want.End = n.exactly(word, first, second); want.End == api.Done {
						want = api.Outcome{End: api.Done, Steps: 4, Values: []int64{value}}
					}
					if got := outcome(t, m, 0, []int64{first, second}, 9); got != told(want) {
						t.Errorf("P7: %s of %d bits, of %d and %d: %s, want %s", word, n.bits, first, second, got, told(want))
					}
				}
			}
		}
	}
}

func TestOfOne(t *testing.T) {
	for _, c := range []struct {
		takes, word, gives string
		n, want            int64
	}{
		{"s", "zero", "s", 0, 1}, {"s", "zero", "s", 1, 0}, {"s", "zero", "s", -1, 0}, {"s", "zero", "s", -1 << 31, 0},
		{"w", "wzero", "s", 0, 1}, {"w", "wzero", "s", 1, 0}, {"w", "wzero", "s", -1, 0}, {"w", "wzero", "s", 1 << 32, 0}, {"w", "wzero", "s", math.MinInt64, 0},
		{"w", "narrow", "s", 5, 5}, {"w", "narrow", "s", -5, -5}, {"w", "narrow", "s", 1<<31 - 1, 1<<31 - 1}, {"w", "narrow", "s", 1 << 31, -1 << 31}, {"w", "narrow", "s", -1<<31 - 1, 1<<31 - 1},
		{"w", "narrow", "s", 1<<32 - 1, -1}, {"w", "narrow", "s", 1 << 32, 0}, {"w", "narrow", "s", 1<<40 + 7, 7}, {"w", "narrow", "s", math.MinInt64, 0}, {"w", "narrow", "s", math.MaxInt64, -1},
		{"s", "widen", "w", 5, 5}, {"s", "widen", "w", -5, -5}, {"s", "widen", "w", -1 << 31, -1 << 31}, {"s", "widen", "w", 1<<31 - 1, 1<<31 - 1},
	} {
		runs(t, fmt.Sprintf("Done 3 [%d]", c.want), []int64{c.n}, part{c.takes, c.gives, "", "get 0 " + c.word + " end"})
	}
}

func TestConstants(t *testing.T) {
	for _, c := range []struct {
		gives, text string
		want        int64
	}{
		{"s", "20 0 0 0 0", 0}, {"s", "20 1 2 3 4", 0x01020304}, {"s", "20 127 255 255 255", 1<<31 - 1}, {"s", "20 128 0 0 0", -1 << 31}, {"s", "20 255 255 255 254", -2}, {"s", "20 0 0 0 255", 255},
		{"w", "21 0 0 0 0 0 0 0 0", 0}, {"w", "21 1 2 3 4 5 6 7 8", 0x0102030405060708}, {"w", "21 127 255 255 255 255 255 255 255", math.MaxInt64}, {"w", "21 128 0 0 0 0 0 0 0", math.MinInt64}, {"w", "21 255 255 255 255 255 255 255 254", -2}, {"w", "21 0 0 0 0 255 255 255 255", 1<<32 - 1},
	} {
		runs(t, fmt.Sprintf("Done 2 [%d]", c.want), nil, part{"", c.gives, "", c.text + " end"})
	}
}
