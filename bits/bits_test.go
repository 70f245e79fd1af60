package bits_test

import (
	"math"
	"testing"

	"bonsai/bits"
)

const noNumber = 0x7ff8000000000000

// edges are the parts m that stand at an end, or at a change of a digit.
var edges = []uint64{0, 1, 2, 3, 1<<26 - 1, 1 << 26, 1<<51 - 1, 1 << 51, 1<<51 + 1, 1<<52 - 2, 1<<52 - 1, 0x5555555555555, 0xaaaaaaaaaaaaa}

// patterns goes by every e, with and without the minus, with all edges, and behind that by others here and there.
func patterns(yield func(uint64) bool) {
	for top := range uint64(4096) {
		for _, m := range edges {
			if !yield(top<<52 | m) {
				return
			}
		}
	}
	u := uint64(0x9e3779b97f4a7c15)
	for range 20000 {
		u = u*6364136223846793005 + 1442695040888963407
		if !yield(u ^ u>>29) {
			return
		}
	}
}

// isNone tells by the document's words whether e and m of u are those of no number.
func isNone(u uint64) bool {
	return u>>52&2047 == 2047 && u<<12 != 0
}

// P1.1: Bits.
func TestBits(t *testing.T) {
	zero := 0.0
	for i, c := range []struct {
		f float64
		u uint64
	}{
		{0, 0}, {-zero, 1 << 63},
		{1, 0x3ff0000000000000}, {-1, 0xbff0000000000000}, {1.5, 0x3ff8000000000000}, {-2, 0xc000000000000000}, {0.1, 0x3fb999999999999a},
		{0x1p-1074, 1}, {-0x1p-1074, 1<<63 | 1}, {0x0.fffffffffffffp-1022, 1<<52 - 1},
		{0x1p-1022, 1 << 52}, {0x1.fffffffffffffp-1022, 1<<53 - 1}, {0x1p-1021, 1 << 53},
		{0x1.fffffffffffffp-1, 0x3fefffffffffffff}, {0x1.0000000000001p0, 0x3ff0000000000001}, {0x1.fffffffffffffp0, 0x3fffffffffffffff},
		{0x1.fffffffffffffp1023, 0x7fefffffffffffff}, {-0x1.fffffffffffffp1023, 0xffefffffffffffff},
		{math.Inf(1), 0x7ff0000000000000}, {math.Inf(-1), 0xfff0000000000000},
		{math.NaN(), noNumber}, {-math.NaN(), noNumber},
	} {
		if u := bits.Bits(c.f); u != c.u {
			t.Errorf("case %d: Bits of %v: %#x, not %#x", i, c.f, u, c.u)
		}
	}
	for u := range patterns {
		want := u
		if isNone(u) {
			want = noNumber
		}
		if got := bits.Bits(math.Float64frombits(u)); got != want {
			t.Fatalf("Bits of what has %#x: %#x, not %#x", u, got, want)
		}
	}
}

// P1.1: Float.
func TestFloat(t *testing.T) {
	for u := range patterns {
		f := bits.Float(u)
		if isNone(u) {
			if f == f {
				t.Fatalf("Float of %#x: %v, not none", u, f)
			}
		} else if got := math.Float64bits(f); got != u {
			t.Fatalf("Float of %#x has %#x", u, got)
		}
	}
}

// P1.1: Canon.
func TestCanon(t *testing.T) {
	for i, c := range []struct {
		u    uint64
		want bool
	}{
		{0, true}, {1, true}, {1 << 63, true}, {0x7fefffffffffffff, true}, {0xffefffffffffffff, true},
		{0x7ff0000000000000, true}, {0xfff0000000000000, true}, {noNumber, true},
		{0x7ff0000000000001, false}, {noNumber - 1, false}, {noNumber + 1, false}, {0x7fffffffffffffff, false},
		{0xfff0000000000001, false}, {0xfff8000000000000, false}, {1<<64 - 1, false},
	} {
		if got := bits.Canon(c.u); got != c.want {
			t.Errorf("case %d: Canon of %#x: %v", i, c.u, got)
		}
	}
	for u := range patterns {
		if got, want := bits.Canon(u), !isNone(u) || u == noNumber; got != want {
			t.Fatalf("Canon of %#x: %v", u, got)
		}
	}
}

// P1.2: the kinds, and Kind.
func TestKind(t *testing.T) {
	// An untyped constant fits a small kind, too.
	if l := [5]uint8{bits.Zero, bits.Tiny, bits.Plain, bits.Endless, bits.None}; l != [5]uint8{0, 1, 2, 3, 4} {
		t.Errorf("kinds: %v", l)
	}
	zero := 0.0
	for i, c := range []struct {
		f    float64
		kind int
	}{
		{0, bits.Zero}, {-zero, bits.Zero},
		{0x1p-1074, bits.Tiny}, {-0x1p-1074, bits.Tiny}, {0x0.fffffffffffffp-1022, bits.Tiny}, {-0x0.fffffffffffffp-1022, bits.Tiny},
		{0x1p-1022, bits.Plain}, {-0x1p-1022, bits.Plain}, {1, bits.Plain}, {-1, bits.Plain},
		{math.MaxFloat64, bits.Plain}, {-math.MaxFloat64, bits.Plain},
		{math.Inf(1), bits.Endless}, {math.Inf(-1), bits.Endless},
		{math.NaN(), bits.None}, {-math.NaN(), bits.None}, {math.Float64frombits(0xfff0000000000001), bits.None},
	} {
		if got := bits.Kind(c.f); got != c.kind {
			t.Errorf("case %d: Kind of %v: %d, not %d", i, c.f, got, c.kind)
		}
	}
	for u := range patterns {
		want := bits.Plain
		switch e, m := u>>52&2047, u<<12; {
		case e == 2047 && m != 0:
			want = bits.None
		case e == 2047:
			want = bits.Endless
		case e == 0 && m == 0:
			want = bits.Zero
		case e == 0:
			want = bits.Tiny
		}
		if got := bits.Kind(math.Float64frombits(u)); got != want {
			t.Fatalf("Kind of what has %#x: %d, not %d", u, got, want)
		}
	}
}

// P1.2: Minus.
func TestMinus(t *testing.T) {
	for u := range patterns {
		if got, want := bits.Minus(math.Float64frombits(u)), u>>63 == 1 && !isNone(u); got != want {
			t.Fatalf("Minus of what has %#x: %v", u, got)
		}
	}
}

// P1.2: Same.
func TestSame(t *testing.T) {
	zero := 0.0
	for i, c := range []struct {
		a, b float64
		want bool
	}{
		{1, 1, true}, {1, -1, false}, {1, 0x1.0000000000001p0, false},
		{0, 0, true}, {0, -zero, false}, {-zero, 0, false}, {-zero, -zero, true}, {0, 0x1p-1074, false},
		{math.Inf(1), math.Inf(1), true}, {math.Inf(1), math.Inf(-1), false}, {math.Inf(1), math.MaxFloat64, false},
		{math.NaN(), math.NaN(), true}, {math.NaN(), -math.NaN(), true}, {math.NaN(), math.Float64frombits(0xfff0000000000001), true},
		{math.NaN(), 0, false}, {math.Inf(1), math.NaN(), false},
	} {
		if got := bits.Same(c.a, c.b); got != c.want {
			t.Errorf("case %d: Same of %v and %v: %v", i, c.a, c.b, got)
		}
	}
}

// P1.3: bits of what bits make are those bits, where they may be.
func TestRound(t *testing.T) {
	for u := range patterns {
		f := bits.Float(u)
		if got := bits.Bits(f); (got == u) != bits.Canon(u) || !bits.Canon(got) {
			t.Fatalf("%#x comes back as %#x", u, got)
		}
		if !bits.Same(f, bits.Float(bits.Bits(f))) {
			t.Fatalf("%v comes back as another one", f)
		}
	}
}

// P1.3: nothing lies between one and the next one.
func TestNext(t *testing.T) {
	for u := range patterns {
		size := u &^ (1 << 63)
		if size >= 0x7ff0000000000000 {
			continue
		}
		a, b := bits.Float(u), bits.Float(u+1)
		far := math.Inf(1)
		if bits.Minus(a) {
			far = math.Inf(-1)
		}
		if next := math.Nextafter(a, far); next != b || a == b {
			t.Fatalf("%#x: behind %v comes %v, not %v", u, a, next, b)
		}
	}
}
