// Package number reckons with smalls and wides.
package number

import (
	"treadle/api"
	"treadle/code"
	"treadle/shape"
)

// whole is a number of either type, which goes round as the type does.
type whole interface{ int32 | int64 }

// OfTwo reckons with two numbers, first and second, of the type that the kind is of. The End is other than Done, and there is no number, if it can't be done.
func OfTwo(kind code.Kind, first, second int64) (int64, api.End) {
	if kind.Of == shape.Small {
		n, end := ofTwo(kind.Name, int32(first), int32(second), 32)
		return int64(n), end
	}
	return ofTwo(kind.Name, first, second, 64)
}

func ofTwo[N whole](name int, first, second, bits N) (N, api.End) {
	switch name {
	case code.Div:
		return div(first, second)
	case code.Rem:
		return rem(first, second)
	case code.Left:
		return first << modulo(second, bits), api.Done
	case code.Right:
		return first >> modulo(second, bits), api.Done
	case code.Equal:
		return truth[N](first == second), api.Done
	case code.Less:
		return truth[N](first < second), api.Done
	}
	return simple(name, first, second), api.Done
}

// simple is what hangs neither on the type nor on what the numbers are.
func simple[N whole](name int, first, second N) N {
	switch name {
	case code.Add:
		return first + second
	case code.Sub:
		return first - second
	case code.Mul:
		return first * second
	case code.And:
		return first & second
	case code.Or:
		return first | second
	}
	return first ^ second
}

// div is over where the number is the least one: but for 0 only that one is its own opposite.
func div[N whole](first, second N) (N, api.End) {
	switch {
	case second == 0:
		return 0, api.Zero
	case second == -1 && first == -first && first != 0:
		return 0, api.Over
	}
	return first / second, api.Done
}

func rem[N whole](first, second N) (N, api.End) {
	if second == 0 {
		return 0, api.Zero
	}
	return first % second, api.Done
}

// modulo is from 0 on, since the bits are a power of 2.
func modulo[N whole](n, bits N) N { return n & (bits - 1) }

func truth[N whole](holds bool) N {
	if holds {
		return 1
	}
	return 0
}

// OfOne reckons with one number.
func OfOne(name int, n int64) int64 {
	switch name {
	case code.Zero:
		return truth[int64](n == 0)
	case code.Narrow:
		return int64(int32(n))
	}
	return n
}

// IsSmall tells whether it is a number of 32 bits.
func IsSmall(n int64) bool { return n == int64(int32(n)) }
