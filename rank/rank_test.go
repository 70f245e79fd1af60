package rank_test

import (
	"math"
	"testing"

	"bonsai/api"
	"bonsai/bits"
	"bonsai/rank"
)

const top = 1 << 63

// rising is numbers in the order that the document asks for.
func rising() []float64 {
	zero := 0.0
	return []float64{
		math.Inf(-1), -math.MaxFloat64, -1e300, -2, -0x1.0000000000001p0, -1, -0.5, -0x1p-1022, -0x0.fffffffffffffp-1022, -0x1p-1074, -zero,
		0, 0x1p-1074, 0x0.fffffffffffffp-1022, 0x1p-1022, 0.5, 1, 0x1.0000000000001p0, 2, 1e300, math.MaxFloat64, math.Inf(1), math.NaN(),
	}
}

// keys are numbers of 64 bits, at all ends of what may be a Key, and here and there.
func keys() []uint64 {
	var l []uint64
	for _, k := range []uint64{0, 1 << 51, 1 << 52, 1 << 62, top, 0xfff0000000000000, 0xfff8000000000000, 0x8010000000000000, 0x7ff0000000000000} {
		l = append(l, k-2, k-1, k, k+1, k+2)
	}
	k := uint64(0x2545f4914f6cdd1d)
	for range 5000 {
		k = k*6364136223846793005 + 1442695040888963407
		l = append(l, k^k>>31)
	}
	return l
}

// may tells by the document's words whether there is a number of that Key.
func may(k uint64) bool {
	return k >= 0x000fffffffffffff && k <= 0xfff0000000000000 || k == 0xfff8000000000000
}

// P2.1: Key.
func TestKey(t *testing.T) {
	zero := 0.0
	for i, c := range []struct {
		f float64
		k uint64
	}{
		{0, top}, {-zero, top - 1}, {0x1p-1074, top + 1}, {-0x1p-1074, top - 2},
		{1, 0xbff0000000000000}, {-1, 0x400fffffffffffff},
		{math.MaxFloat64, 0xffefffffffffffff}, {-math.MaxFloat64, 0x0010000000000000},
		{math.Inf(1), 0xfff0000000000000}, {math.Inf(-1), 0x000fffffffffffff},
		{math.NaN(), 0xfff8000000000000}, {-math.NaN(), 0xfff8000000000000}, {math.Float64frombits(1<<64 - 1), 0xfff8000000000000},
	} {
		if k := rank.Key(c.f); k != c.k {
			t.Errorf("case %d: Key of %v: %#x, not %#x", i, c.f, k, c.k)
		}
	}
}

// P2.1: Unkey.
func TestUnkey(t *testing.T) {
	for _, f := range rising() {
		if g, is := rank.Unkey(rank.Key(f)); !is || !bits.Same(f, g) {
			t.Errorf("Unkey of Key of %v: %v, %v", f, g, is)
		}
	}
	for _, k := range keys() {
		f, is := rank.Unkey(k)
		if is != may(k) {
			t.Errorf("Unkey of %#x: %v", k, is)
		}
		if is && rank.Key(f) != k {
			t.Errorf("Unkey of %#x: %v, whose Key is %#x", k, f, rank.Key(f))
		}
		if !is && math.Float64bits(f) != 0 {
			t.Errorf("Unkey of %#x: %v beside false", k, f)
		}
	}
}

// P2.2, and P2.5: where numbers are, the order is theirs.
func TestCompare(t *testing.T) {
	for i, a := range rising() {
		for k, b := range rising() {
			want := 0
			if i < k {
				want = -1
			} else if i > k {
				want = 1
			}
			if got := rank.Compare(a, b); got != want {
				t.Errorf("Compare of %v and %v: %d, not %d", a, b, got, want)
			}
			if got := rank.Compare(a, b); a < b && got != -1 || a > b && got != 1 {
				t.Errorf("Compare of %v and %v: %d", a, b, got)
			}
		}
	}
	if rank.Compare(-math.NaN(), math.NaN()) != 0 || rank.Compare(math.Float64frombits(1<<64-1), math.Inf(-1)) != 1 {
		t.Error("all that is no number is one, and stands behind all")
	}
}

// P2.3: Between, by examples.
func TestBetween(t *testing.T) {
	zero := 0.0
	for i, c := range []struct {
		a, b, want float64
		is         bool
	}{
		{1, 2, 1.5, true}, {2, 1, 1.5, true}, {1, 4, 2, true}, {-1, -2, -1.5, true}, {-1, -0x1.0000000000003p0, -0x1.0000000000002p0, true}, {1, 0x1.0000000000003p0, 0x1.0000000000001p0, true},
		{0, 0, 0, false}, {1, 1, 0, false}, {-zero, 0, 0, false}, {0, -zero, 0, false}, {0, 0x1p-1074, 0, false}, {-0x1p-1074, -zero, 0, false},
		{-zero, 0x1p-1074, 0, true}, {-0x1p-1074, 0, -zero, true}, {0, 0x1p-1073, 0x1p-1074, true}, {0, 0x1.8p-1073, 0x1p-1074, true},
		{-1, 1, -zero, true}, {math.Inf(-1), math.Inf(1), -zero, true}, {math.Inf(1), math.Inf(-1), -zero, true},
		{math.MaxFloat64, math.Inf(1), 0, false}, {0x1.ffffffffffffep1023, math.Inf(1), math.MaxFloat64, true},
		{math.NaN(), math.NaN(), 0, false}, {math.Inf(1), math.NaN(), 0, false}, {math.NaN(), math.MaxFloat64, 0, false},
		{0x1p1022, math.NaN(), math.Float64frombits(0x7fe4000000000000), true},
	} {
		if m, is := rank.Between(c.a, c.b); is != c.is || !bits.Same(m, c.want) {
			t.Errorf("case %d: Between %v and %v: %v, %v, not %v, %v", i, c.a, c.b, m, is, c.want, c.is)
		}
	}
}

// half tells a and b, halved and rounded down, without a sum of 64 bits.
func half(a, b uint64) uint64 {
	return a>>1 + b>>1 + a&b&1
}

// P2.3: Between, by its words.
func TestBetweenAll(t *testing.T) {
	var l []float64
	for _, k := range keys() {
		if f, is := rank.Unkey(k); is {
			l = append(l, f)
		}
	}
	for i, a := range l {
		for _, k := range []int{0, 1, 2, 3, 4, 5, 40, 41, 42, i + 1, i + 2, i * i} {
			b := l[k%len(l)]
			p, q := rank.Key(a), rank.Key(b)
			mid := half(p, q)
			want := max(p, q)-min(p, q) >= 2 && may(mid)
			m, is := rank.Between(a, b)
			if is != want || is && rank.Key(m) != mid || !is && math.Float64bits(m) != 0 {
				t.Fatalf("Between %v and %v: %v, %v", a, b, m, is)
			}
			if is && (rank.Compare(m, a) == rank.Compare(m, b) || rank.Compare(m, a) == 0 || rank.Compare(m, b) == 0) {
				t.Fatalf("Between %v and %v: %v lies not between", a, b, m)
			}
		}
	}
}

// P2.4: Before.
func TestBefore(t *testing.T) {
	for i, c := range []struct {
		a, b api.Time
		want bool
	}{
		{api.Time{Counter: 1, Replica: 9}, api.Time{Counter: 2, Replica: 1}, true},
		{api.Time{Counter: 2, Replica: 1}, api.Time{Counter: 1, Replica: 9}, false},
		{api.Time{Counter: 1, Replica: 1}, api.Time{Counter: 1, Replica: 2}, true},
		{api.Time{Counter: 1, Replica: 2}, api.Time{Counter: 1, Replica: 1}, false},
		{api.Time{Counter: 1, Replica: 1}, api.Time{Counter: 1, Replica: 1}, false},
		{api.Time{}, api.Time{}, false},
		{api.Time{Counter: math.MinInt}, api.Time{Counter: math.MaxInt}, true},
		{api.Time{Counter: math.MaxInt}, api.Time{Counter: math.MinInt}, false},
		{api.Time{Replica: math.MinInt}, api.Time{Replica: math.MaxInt}, true},
		{api.Time{Counter: -1}, api.Time{}, true},
	} {
		if got := rank.Before(c.a, c.b); got != c.want {
			t.Errorf("case %d: Before of %v and %v: %v", i, c.a, c.b, got)
		}
	}
}

// P2.4: Less.
func TestLess(t *testing.T) {
	zero := 0.0
	none := math.NaN()
	for i, c := range []struct {
		a, b api.Row
		want bool
	}{
		{api.Row{Child: 2, Rank: 1}, api.Row{Child: 1, Rank: 2}, true},
		{api.Row{Child: 1, Rank: 2}, api.Row{Child: 2, Rank: 1}, false},
		{api.Row{Child: 1, Rank: 1}, api.Row{Child: 2, Rank: 1}, true},
		{api.Row{Child: 2, Rank: 1}, api.Row{Child: 1, Rank: 1}, false},
		{api.Row{Child: 1, Rank: 1}, api.Row{Child: 1, Rank: 1}, false},
		{api.Row{Child: 1, Rank: 1, Parent: 1, Name: "a"}, api.Row{Child: 1, Rank: 1, Parent: 2, Name: "b"}, false},
		{api.Row{Child: 2, Rank: -zero}, api.Row{Child: 1}, true},
		{api.Row{Child: 1}, api.Row{Child: 2, Rank: -zero}, false},
		{api.Row{Child: 2, Rank: math.Inf(1)}, api.Row{Child: 1, Rank: none}, true},
		{api.Row{Child: 1, Rank: none}, api.Row{Child: 2, Rank: math.Inf(1)}, false},
		{api.Row{Child: 1, Rank: none}, api.Row{Child: 2, Rank: -none}, true},
		{api.Row{Child: 2, Rank: none}, api.Row{Child: 1, Rank: -none}, false},
		{api.Row{Child: math.MinInt}, api.Row{Child: math.MaxInt}, true},
	} {
		if got := rank.Less(c.a, c.b); got != c.want {
			t.Errorf("case %d: Less of %v and %v: %v", i, c.a, c.b, got)
		}
	}
}

// order tells whether ahead is an order of all of l, in which just those stand alike that alike says.
func order[T any](l []T, ahead func(a, b T) bool, alike func(a, b T) bool) bool {
	for _, a := range l {
		for _, b := range l {
			if ahead(a, b) && ahead(b, a) || alike(a, b) == (ahead(a, b) || ahead(b, a)) {
				return false
			}
			for _, c := range l {
				if ahead(a, b) && ahead(b, c) && !ahead(a, c) {
					return false
				}
			}
		}
	}
	return true
}

// P2.5: each is an order of all.
func TestOrders(t *testing.T) {
	if !order(rising(), func(a, b float64) bool { return rank.Compare(a, b) < 0 }, bits.Same) {
		t.Error("Compare is no order")
	}
	ends := []int{math.MinInt, -1, 0, 1, 2, math.MaxInt}
	var times []api.Time
	for _, c := range ends {
		for _, r := range ends {
			times = append(times, api.Time{Counter: c, Replica: r})
		}
	}
	if !order(times, rank.Before, func(a, b api.Time) bool { return a == b }) {
		t.Error("Before is no order")
	}
	var rows []api.Row
	for _, f := range rising() {
		for _, c := range []int{math.MinInt, 0, 1, math.MaxInt} {
			rows = append(rows, api.Row{Child: c, Rank: f})
		}
	}
	alike := func(a, b api.Row) bool { return a.Child == b.Child && bits.Same(a.Rank, b.Rank) }
	if !order(rows, rank.Less, alike) {
		t.Error("Less is no order")
	}
}
