package crc_test

import (
	"hash/crc32"
	"math"
	"slices"
	"strings"
	"testing"

	"bonsai/crc"
)

const all = 1<<32 - 1

// round is after how many steps by a byte 0 each number comes back: the divisor has no part, and is made from all of its
// 2^32 - 1 powers.
const round = 1<<32 - 1

// numbers goes without an end by numbers that look like chance, and are the same each time.
func numbers() func() uint64 {
	u := uint64(0x9e3779b97f4a7c15)
	return func() uint64 {
		u = u*6364136223846793005 + 1442695040888963407
		return u ^ u>>29
	}
}

// stepped tells by the document's words what c is, stepped by each byte of s.
func stepped(c uint32, s string) uint32 {
	for _, b := range []byte(s) {
		x := c ^ uint32(b)
		for range 8 {
			if x%2 == 1 {
				x = x/2 ^ 0xedb88320
			} else {
				x = x / 2
			}
		}
		c = x
	}
	return c
}

// starts are numbers to step from: each bit alone, all but each, and others.
func starts() []uint32 {
	l := []uint32{0, all, 0xedb88320, 0x55555555, 0xaaaaaaaa, 0xff, 0xffffff00, 0xabcdef01}
	for i := range 32 {
		l = append(l, 1<<i, all^1<<i)
	}
	next := numbers()
	for range 40 {
		l = append(l, uint32(next()))
	}
	return l
}

// texts are all texts of up to one byte, and others of up to a thousand bytes.
func texts() []string {
	l := []string{"", "\x00\x00", "\x00\x00\x00\x00", "\xff\xff\xff\xff", "\x00\x01", "\x01\x00", "123456789", "bonsai", "ä", "\xff\x80\xfe", strings.Repeat("\x00", 1000), strings.Repeat("\xff", 1000)}
	for b := range 256 {
		l = append(l, string([]byte{byte(b)}))
	}
	next := numbers()
	for range 100 {
		s := make([]byte, next()%1000)
		for i := range s {
			s[i] = byte(next())
		}
		l = append(l, string(s))
	}
	return l
}

// P10.1: Sum.
func TestSum(t *testing.T) {
	for s, want := range map[string]uint32{
		"": 0, "123456789": 0xcbf43926, "a": 0xe8b7be43, "abc": 0x352441c2, "\x00": 0xd202ef8d, "\xff": 0xff000000,
		"\x00\x00\x00\x00": 0x2144df1c, "\xff\xff\xff\xff": 0xffffffff, "The quick brown fox jumps over the lazy dog": 0x414fa339,
	} {
		if c := crc.Sum(s); c != want {
			t.Errorf("Sum of %q: %#x, not %#x", s, c, want)
		}
	}
	for _, s := range texts() {
		c := crc.Sum(s)
		if want := stepped(all, s) ^ all; c != want {
			t.Errorf("Sum of %q: %#x, not %#x", s, c, want)
		}
		if want := crc32.ChecksumIEEE([]byte(s)); c != want {
			t.Errorf("Sum of %q: %#x, elsewhere %#x", s, c, want)
		}
	}
	long := strings.Repeat("a tree \x00\xff", 1<<17)
	if c, want := crc.Sum(long), crc32.ChecksumIEEE([]byte(long)); c != want {
		t.Errorf("Sum of a million bytes: %#x, not %#x", c, want)
	}
}

// P10.1: More, of all numbers, be they a sum or not.
func TestMore(t *testing.T) {
	for _, c := range []struct {
		a    uint32
		s    string
		want uint32
	}{
		{0, "", 0}, {7, "", 7}, {all, "", all}, {0, "123456789", 0xcbf43926}, {crc.Sum("1234"), "56789", 0xcbf43926},
		{all, "\x00", all}, {all, "\x01", 0x77073096 ^ all}, {0, "\x00", 0xd202ef8d},
	} {
		if got := crc.More(c.a, c.s); got != c.want {
			t.Errorf("More of %#x, %q: %#x, not %#x", c.a, c.s, got, c.want)
		}
	}
	for _, s := range texts() {
		for _, a := range starts() {
			if got, want := crc.More(a, s), stepped(a^all, s)^all; got != want {
				t.Fatalf("More of %#x, %q: %#x, not %#x", a, s, got, want)
			}
			if got, want := crc.More(a, s), crc32.Update(a, crc32.IEEETable, []byte(s)); got != want {
				t.Fatalf("More of %#x, %q: %#x, elsewhere %#x", a, s, got, want)
			}
		}
	}
}

// P10.2: Zeros, of as few bytes as can be stepped by one by one.
func TestZeros(t *testing.T) {
	for _, c := range []struct {
		c    uint32
		n    int
		want uint32
	}{
		{1, 1, 0x77073096}, {0x80, 1, 0xedb88320}, {0xffffff00, 1, 0x00ffffff}, {all, 1, 0xd202ef8d ^ all}, {all, 4, 0x2144df1c ^ all}, {0, 1, 0},
	} {
		if got := crc.Zeros(c.c, c.n); got != c.want {
			t.Errorf("Zeros of %#x, %d: %#x, not %#x", c.c, c.n, got, c.want)
		}
	}
	for _, c := range starts() {
		want := c
		for n := range 1100 {
			if got := crc.Zeros(c, n); got != want {
				t.Fatalf("Zeros of %#x, %d: %#x, not %#x", c, n, got, want)
			}
			want = stepped(want, "\x00")
		}
	}
}

// P10.2: Zeros of no bytes, and of fewer.
func TestZerosNone(t *testing.T) {
	for _, c := range starts() {
		for _, n := range []int{0, -1, -2, -5, -256, -1 << 32, math.MinInt + 1, math.MinInt} {
			if got := crc.Zeros(c, n); got != c {
				t.Errorf("Zeros of %#x, %d: %#x", c, n, got)
			}
		}
	}
}

// P10.2: Zeros of many bytes: as many as can still be stepped by, and more, which come round.
func TestZerosMany(t *testing.T) {
	many := strings.Repeat("\x00", 1<<20)
	for _, c := range starts()[:12] {
		for _, n := range []int{1 << 16, 1<<16 - 1, 1<<16 + 1, 1 << 20, 1<<20 - 1, 0xaaaaa} {
			if got, want := crc.Zeros(c, n), stepped(c, many[:n]); got != want {
				t.Errorf("Zeros of %#x, %d: %#x, not %#x", c, n, got, want)
			}
		}
	}
	for _, c := range starts() {
		for _, rounds := range []int{1, 2, 3, 511, 512, 1 << 16, 0x55555555, 1<<31 - 1, 1 << 31} {
			for _, n := range []int{0, 1, 2, 5, 300} {
				if got, want := crc.Zeros(c, rounds*round+n), stepped(c, many[:n]); got != want {
					t.Errorf("Zeros of %#x, %d rounds and %d: %#x, not %#x", c, rounds, n, got, want)
				}
			}
		}
		// 2^32 is a round and 1: what lies 32 bits higher counts as much.
		for i := range 10 {
			if got, want := crc.Zeros(c, 1<<(i+32)), stepped(c, many[:1<<i]); got != want {
				t.Errorf("Zeros of %#x, 2^%d: %#x, not %#x", c, i+32, got, want)
			}
		}
		if got, want := crc.Zeros(c, math.MaxInt), crc.Zeros(c, 1<<31-1); got != want {
			t.Errorf("Zeros of %#x, 2^63 - 1: %#x, of 2^31 - 1: %#x", c, got, want)
		}
	}
}

// P10.2: some bytes, and others behind them, are all of them; and each bit of a number is stepped for itself.
func TestZerosLinear(t *testing.T) {
	next := numbers()
	for range 300 {
		c, d := uint32(next()), uint32(next())
		m, n := int(next()>>2>>(next()%62)), int(next()>>2>>(next()%62))
		if got, want := crc.Zeros(crc.Zeros(c, m), n), crc.Zeros(c, m+n); got != want {
			t.Errorf("Zeros of %#x, %d, and then %d: %#x, not %#x", c, m, n, got, want)
		}
		if got, want := crc.Zeros(c, n)^crc.Zeros(d, n), crc.Zeros(c^d, n); got != want {
			t.Errorf("Zeros of %#x and %#x, %d: %#x, not %#x", c, d, n, got, want)
		}
		if got := crc.Zeros(0, n); got != 0 {
			t.Errorf("Zeros of 0, %d: %#x", n, got)
		}
	}
}

// P10.3: Combine, of all numbers, be they sums or not.
func TestCombine(t *testing.T) {
	for _, c := range []struct {
		a, b uint32
		n    int
		want uint32
	}{
		{0, 0, 0, 0}, {7, 9, 0, 7 ^ 9}, {7, 9, -1, 7 ^ 9}, {7, 9, math.MinInt, 7 ^ 9}, {1, 0, 1, 0x77073096}, {1, 0xff, 1, 0x77073096 ^ 0xff}, {0, all, 1 << 40, all},
	} {
		if got := crc.Combine(c.a, c.b, c.n); got != c.want {
			t.Errorf("Combine of %#x, %#x, %d: %#x, not %#x", c.a, c.b, c.n, got, c.want)
		}
	}
	zeros := strings.Repeat("\x00", 300)
	next := numbers()
	for _, a := range starts() {
		b := uint32(next())
		for _, n := range []int{1, 2, 7, 256, 300} {
			if got, want := crc.Combine(a, b, n), stepped(a, zeros[:n])^b; got != want {
				t.Errorf("Combine of %#x, %#x, %d: %#x, not %#x", a, b, n, got, want)
			}
		}
		for _, n := range []int{0, -1, -300, math.MinInt} {
			if got := crc.Combine(a, b, n); got != a^b {
				t.Errorf("Combine of %#x, %#x, %d: %#x", a, b, n, got)
			}
		}
		// 2^41 bytes come round to 2^9.
		if got, want := crc.Combine(a, b, 1<<41), stepped(a, strings.Repeat("\x00", 512))^b; got != want {
			t.Errorf("Combine of %#x, %#x, 2^41: %#x, not %#x", a, b, got, want)
		}
	}
}

// P10.4: the sum of two texts, one behind the other, is told from theirs.
func TestTogether(t *testing.T) {
	l := texts()
	l = slices.Concat(l[:20], l[len(l)-30:])
	for _, a := range l {
		for _, b := range l {
			want := crc.Sum(a + b)
			if got := crc.More(crc.Sum(a), b); got != want {
				t.Fatalf("More of the Sum of %q, %q: %#x, not %#x", a, b, got, want)
			}
			if got := crc.Combine(crc.Sum(a), crc.Sum(b), len(b)); got != want {
				t.Fatalf("Combine of the Sums of %q and %q: %#x, not %#x", a, b, got, want)
			}
		}
	}
	s := "a tree that many move nodes of, \x00\xff\x80 and its files"
	for i := range len(s) + 1 {
		for j := i; j <= len(s); j++ {
			if c := crc.More(crc.More(crc.Sum(s[:i]), s[i:j]), s[j:]); c != crc.Sum(s) {
				t.Errorf("Sum of three parts, till %d and %d: %#x", i, j, c)
			}
			two := crc.Combine(crc.Sum(s[i:j]), crc.Sum(s[j:]), len(s)-j)
			if c := crc.Combine(crc.Sum(s[:i]), two, len(s)-i); c != crc.Sum(s) {
				t.Errorf("Combine of three parts, till %d and %d: %#x", i, j, c)
			}
		}
	}
}

// What sums are for: a spoilt byte, or two that changed places, is told.
func TestSpoilt(t *testing.T) {
	s := []byte("a tree that many move nodes of")
	want := crc.Sum(string(s))
	for i := range s {
		for b := range 255 {
			s[i] ^= byte(b + 1)
			if crc.Sum(string(s)) == want {
				t.Errorf("byte %d, changed by %#x, is not told", i, b+1)
			}
			s[i] ^= byte(b + 1)
		}
	}
	for i := range s[1:] {
		s[i], s[i+1] = s[i+1], s[i]
		if s[i] != s[i+1] && crc.Sum(string(s)) == want {
			t.Errorf("that bytes %d and %d changed places is not told", i, i+1)
		}
		s[i], s[i+1] = s[i+1], s[i]
	}
}

// R6: what is told hangs on no earlier call.
func TestAgain(t *testing.T) {
	for range 3 {
		for _, n := range []int{1 << 41, 1, 0, 300, -1} {
			crc.Zeros(0x12345678, n)
			if c := crc.Zeros(0x80, 1); c != 0xedb88320 {
				t.Errorf("Zeros behind one of %d: %#x", n, c)
			}
			if c := crc.Sum("123456789"); c != 0xcbf43926 {
				t.Errorf("Sum behind Zeros of %d: %#x", n, c)
			}
		}
		crc.More(7, "abc")
		if c := crc.Combine(7, 9, 0); c != 7^9 {
			t.Errorf("Combine behind More: %#x", c)
		}
	}
}
