// Package bits is layer 1, numbers with a point as bits, whole: see shared/doc/01-bits.md.
package bits

import "math"

// The kinds of numbers.
const (
	Zero = iota
	Tiny
	Plain
	Endless
	None
)

// A number's bits, from the highest one on: the minus, e, m.
const (
	minusBit    = 1 << 63
	expTop      = 2047
	partLen     = 52
	hidden      = 1 << partLen
	partMask    = hidden - 1
	endlessBits = expTop << partLen
	noNumber    = endlessBits | 1<<(partLen-1)
)

// Where e is 0, m counts in 2^tinyExp; else e lies plainBias above the exponent of the number's first digit.
const (
	tinyExp   = -1074
	plainBias = 1023
)

// Bits tells the bits of f, and one same pattern of all that is no number.
func Bits(f float64) uint64 {
	var u uint64
	switch Kind(f) {
	case None:
		return noNumber
	case Endless:
		u = endlessBits
	case Tiny:
		u = uint64(times(math.Abs(f), -tinyExp))
	case Plain:
		lead, exp := part(math.Abs(f))
		u = uint64(exp+plainBias)<<partLen | uint64(lead*hidden)&partMask
	}
	if Minus(f) {
		u |= minusBit
	}
	return u
}

// Float tells the number whose bits are u.
func Float(u uint64) float64 {
	f := size(int(u>>partLen&expTop), u&partMask)
	if u&minusBit != 0 {
		return -f
	}
	return f
}

// Canon tells whether u is Bits of a number.
func Canon(u uint64) bool {
	return u>>partLen&expTop != expTop || u&partMask == 0 || u == noNumber
}

// Kind tells which of the kinds f is.
func Kind(f float64) int {
	switch {
	case math.IsNaN(f):
		return None
	case math.IsInf(f, 0):
		return Endless
	case f == 0:
		return Zero
	case math.Abs(f) < 0x1p-1022:
		return Tiny
	}
	return Plain
}

// Minus tells whether f's bits begin with a 1; those of no number never do, whatever the machine keeps there.
func Minus(f float64) bool {
	return !math.IsNaN(f) && math.Signbit(f)
}

// Same tells whether a and b have the same Bits, as == does neither of nought nor of no number.
func Same(a float64, b float64) bool {
	return Bits(a) == Bits(b)
}

// size makes the number without a minus that e and m tell of.
func size(e int, m uint64) float64 {
	switch {
	case e == expTop && m != 0:
		return math.NaN()
	case e == expTop:
		return math.Inf(1)
	case e == 0:
		return times(float64(m), tinyExp)
	}
	return times(float64(hidden|m), e-plainBias-partLen)
}

// power is a power of two, and the one that undoes it.
type power struct {
	exp  int
	up   float64
	down float64
}

// powers is made by a function since no float may stand at package level. The greatest comes first: what is left behind
// one is below it, so that a smaller one need not be tried twice.
func powers() [10]power {
	return [10]power{
		{512, 0x1p512, 0x1p-512},
		{256, 0x1p256, 0x1p-256},
		{128, 0x1p128, 0x1p-128},
		{64, 0x1p64, 0x1p-64},
		{32, 0x1p32, 0x1p-32},
		{16, 0x1p16, 0x1p-16},
		{8, 0x1p8, 0x1p-8},
		{4, 0x1p4, 0x1p-4},
		{2, 0x1p2, 0x1p-2},
		{1, 0x1p1, 0x1p-1},
	}
}

// times tells f times 2^exp, by steps, since 2^exp alone may be too great or too small to be held. No step rounds: each
// lies between f and the answer, which both hold the same digits whole.
func times(f float64, exp int) float64 {
	for _, p := range powers() {
		for exp >= p.exp {
			f, exp = f*p.up, exp-p.exp
		}
		for exp <= -p.exp {
			f, exp = f*p.down, exp+p.exp
		}
	}
	return f
}

// part parts a Plain number above nought: one from 1 on to below 2, and the exponent of the power of two that makes it f.
func part(f float64) (float64, int) {
	exp := 0
	for _, p := range powers() {
		if f >= p.up {
			f, exp = f*p.down, exp+p.exp
		} else if f*p.up < 2 {
			f, exp = f*p.up, exp-p.exp
		}
	}
	return f, exp
}
