package delta_test

import (
	"encoding/binary"
	"math"
	"slices"
	"strings"
	"testing"

	"bonsai/api"
	"bonsai/delta"
	"bonsai/pack"
)

// column is a list of numbers, its deltas, their bytes, and whether it rises.
type column struct {
	l, d []int
	s    string
	up   bool
}

// columns are what the document's words make by hand of some lists, those at the ends of 64 bits among them.
func columns() []column {
	const low, high = math.MinInt, math.MaxInt
	return []column{
		{nil, nil, "", true},
		{[]int{}, []int{}, "", true},
		{[]int{0}, []int{0}, "\x00", true},
		{[]int{-7}, []int{-7}, "\x0d", true},
		{[]int{5, 3}, []int{5, -2}, "\x0a\x03", false},
		{[]int{3, 5}, []int{3, 2}, "\x06\x04", true},
		{[]int{5, 5}, []int{5, 0}, "\x0a\x00", false},
		{[]int{0, 0}, []int{0, 0}, "\x00\x00", false},
		{[]int{1, 2, 3, 3}, []int{1, 1, 1, 0}, "\x02\x02\x02\x00", false},
		{[]int{1, 2, 3, 4}, []int{1, 1, 1, 1}, "\x02\x02\x02\x02", true},
		{[]int{2, 1, 3, 4}, []int{2, -1, 2, 1}, "\x04\x01\x04\x02", false},
		{[]int{-3, -2, 0, 1}, []int{-3, 1, 2, 1}, "\x05\x02\x04\x02", true},
		{[]int{1000, 1300}, []int{1000, 300}, "\xd0\x0f\xd8\x04", true},
		{[]int{low}, []int{low}, "\xff\xff\xff\xff\xff\xff\xff\xff\xff\x01", true},
		{[]int{high}, []int{high}, "\xfe\xff\xff\xff\xff\xff\xff\xff\xff\x01", true},
		{[]int{high, low}, []int{high, 1}, "\xfe\xff\xff\xff\xff\xff\xff\xff\xff\x01\x02", false},
		{[]int{low, high}, []int{low, -1}, "\xff\xff\xff\xff\xff\xff\xff\xff\xff\x01\x01", true},
		{[]int{0, low, 0}, []int{0, low, low}, "\x00" + strings.Repeat("\xff\xff\xff\xff\xff\xff\xff\xff\xff\x01", 2), false},
		{[]int{-2, high}, []int{-2, low + 1}, "\x03\xfd\xff\xff\xff\xff\xff\xff\xff\xff\x01", true},
	}
}

// lists goes by lists of up to fifty numbers of all sizes; in every second one the numbers lie near each other.
func lists(yield func([]int) bool) {
	u := uint64(0x9e3779b97f4a7c15)
	next := func() uint64 {
		u = u*6364136223846793005 + 1442695040888963407
		return u ^ u>>29
	}
	for i := range 2000 {
		l := make([]int, i%51)
		for j := range l {
			l[j] = int(next()) >> (next() % 64)
			if i%2 == 1 && j > 0 {
				l[j] = l[j-1] + int(next()%9) - 1
			}
		}
		if !yield(l) {
			return
		}
	}
}

// less tells a less b as 64 bits go round: digits are counted down one by one, and what is lent above the highest is lost.
func less(a int, b int) int {
	d, lent := uint64(0), uint64(0)
	for i := range 64 {
		x, y := uint64(a)>>i&1, uint64(b)>>i&1
		d |= (x ^ y ^ lent) << i
		if x < y+lent {
			lent = 1
		} else {
			lent = 0
		}
	}
	return int(d)
}

// P5.1: Deltas.
func TestDeltas(t *testing.T) {
	for i, c := range columns() {
		if d := delta.Deltas(c.l); !slices.Equal(d, c.d) {
			t.Errorf("case %d: Deltas of %v: %v, not %v", i, c.l, d, c.d)
		}
	}
	for l := range lists {
		d := delta.Deltas(l)
		if len(d) != len(l) {
			t.Fatalf("Deltas of %d numbers are %d", len(l), len(d))
		}
		for i := range l {
			want := l[i]
			if i > 0 {
				want = less(l[i], l[i-1])
			}
			if d[i] != want {
				t.Fatalf("Deltas of %v: %d at %d, not %d", l, d[i], i, want)
			}
		}
	}
}

// P5.1: Sums.
func TestSums(t *testing.T) {
	for i, c := range columns() {
		if l := delta.Sums(c.d); !slices.Equal(l, c.l) {
			t.Errorf("case %d: Sums of %v: %v, not %v", i, c.d, l, c.l)
		}
	}
	for l := range lists {
		if got := delta.Sums(delta.Deltas(l)); !slices.Equal(got, l) {
			t.Fatalf("Sums of Deltas of %v: %v", l, got)
		}
		if got := delta.Deltas(delta.Sums(l)); !slices.Equal(got, l) {
			t.Fatalf("Deltas of Sums of %v: %v", l, got)
		}
	}
}

// P5.2: Encode.
func TestEncode(t *testing.T) {
	for i, c := range columns() {
		if s := delta.Encode(c.l); s != c.s {
			t.Errorf("case %d: Encode of %v: %q, not %q", i, c.l, s, c.s)
		}
	}
	for l := range lists {
		var want []byte
		for _, d := range delta.Deltas(l) {
			want = binary.AppendVarint(want, int64(d))
		}
		if s := delta.Encode(l); s != string(want) {
			t.Fatalf("Encode of %v: %q, not %q", l, s, want)
		}
	}
}

// checkDecode holds what Decode tells against l and e.
func checkDecode(t *testing.T, s string, n int, l []int, e api.Errno) {
	t.Helper()
	if got, err := delta.Decode(s, n); !slices.Equal(got, l) || err != e {
		t.Errorf("Decode of %q, %d: %v, %d, not %v, %d", s, n, got, err, l, e)
	}
}

// P5.2: Decode of what Encode told.
func TestDecode(t *testing.T) {
	for _, c := range columns() {
		checkDecode(t, c.s, len(c.l), c.l, api.OK)
	}
	for l := range lists {
		s := delta.Encode(l)
		checkDecode(t, s, len(l), l, api.OK)
		checkDecode(t, s, -1, nil, api.ErrArg)
		checkDecode(t, s, len(l)+1, nil, api.ErrCut)
		checkDecode(t, s+"\x00", len(l), nil, api.ErrForm)
		if len(l) > 0 {
			checkDecode(t, s, len(l)-1, nil, api.ErrForm)
			checkDecode(t, s[:len(s)-1], len(l), nil, api.ErrCut)
		}
	}
}

// P5.2, R2: Decode of what is wrong, the first error ahead of all others.
func TestDecodeWrong(t *testing.T) {
	for _, c := range []struct {
		s string
		n int
		e api.Errno
	}{
		{"", -1, api.ErrArg}, {"", math.MinInt, api.ErrArg}, {"\x02", -1, api.ErrArg}, {"\x80\x00", -1, api.ErrArg},
		{"", 1, api.ErrCut}, {"", math.MaxInt, api.ErrCut}, {"\x02", 2, api.ErrCut}, {"\x02", 1 << 62, api.ErrCut},
		{"\x80\x00", 3, api.ErrCut}, {"\x80\x00", math.MaxInt, api.ErrCut},
		{"\x80", 1, api.ErrCut}, {"\x02\x80", 2, api.ErrCut}, {"\x80\x01", 2, api.ErrCut}, {"\x80\x80\x80", 1, api.ErrCut},
		{"\x80\x00", 1, api.ErrLong}, {"\x80\x00", 2, api.ErrLong}, {"\x02\x80\x00", 2, api.ErrLong}, {"\x80\x00\x80", 2, api.ErrLong},
		{"\x80\x00\x02", 1, api.ErrLong}, {strings.Repeat("\xff", 9) + "\x02", 1, api.ErrLong}, {strings.Repeat("\x80", 11), 1, api.ErrLong},
		{"\x00", 0, api.ErrForm}, {"\x80", 0, api.ErrForm}, {"\x80\x00", 0, api.ErrForm}, {"\x02\x02", 1, api.ErrForm}, {"\x02\x80", 1, api.ErrForm},
		{"\x02\x80\x00", 1, api.ErrForm}, {strings.Repeat("\x00", 100), 99, api.ErrForm}, {strings.Repeat("\x00", 100), 101, api.ErrCut},
	} {
		checkDecode(t, c.s, c.n, nil, c.e)
	}
}

// decode tells by the document's words what Decode is to tell.
func decode(s string, n int) ([]int, api.Errno) {
	switch {
	case n < 0:
		return nil, api.ErrArg
	case n > len(s):
		return nil, api.ErrCut
	}
	r := pack.New(s)
	var l []int
	for i := range n {
		d := pack.Zag(r.Num())
		if r.Err() != api.OK {
			return nil, r.Err()
		}
		if i > 0 {
			d += l[i-1]
		}
		l = append(l, d)
	}
	if r.Left() > 0 {
		return nil, api.ErrForm
	}
	return l, api.OK
}

// P5.2, P5.4: all texts of up to four bytes of some: each is no list, or just one's.
func TestDecodeAll(t *testing.T) {
	texts := []string{""}
	for begin := 0; len(texts[begin]) < 4; begin++ {
		for _, b := range []byte{0, 1, 2, 127, 128, 129, 255} {
			texts = append(texts, texts[begin]+string([]byte{b}))
		}
	}
	good := 0
	for _, s := range texts {
		for n := -1; n <= 5; n++ {
			l, e := decode(s, n)
			checkDecode(t, s, n, l, e)
			if e != api.OK {
				continue
			}
			good++
			if len(l) != n || delta.Encode(l) != s {
				t.Errorf("%q is %v, of which Encode is %q", s, l, delta.Encode(l))
			}
		}
	}
	if good < 1000 {
		t.Errorf("no more than %d texts are a list's", good)
	}
}

// P5.3: Rising.
func TestRising(t *testing.T) {
	for i, c := range columns() {
		if up := delta.Rising(c.l); up != c.up {
			t.Errorf("case %d: Rising of %v: %v", i, c.l, up)
		}
	}
	risen := 0
	for l := range lists {
		want := true
		for i := range l {
			want = want && (i == 0 || l[i] > l[i-1])
		}
		if up := delta.Rising(l); up != want {
			t.Fatalf("Rising of %v: %v", l, up)
		}
		slices.Sort(l)
		if l = slices.Compact(l); !delta.Rising(l) {
			t.Fatalf("Rising of %v: false", l)
		}
		if len(l) > 1 {
			risen++
			if delta.Rising(append(l, l[len(l)-1])) {
				t.Fatalf("Rising of %v, and its last one again: true", l)
			}
		}
	}
	if risen < 1000 {
		t.Errorf("no more than %d lists rose", risen)
	}
}

// P5.4: a list without a number is no bytes, and no bytes are just that list.
func TestNothing(t *testing.T) {
	if s := delta.Encode(nil); s != "" {
		t.Errorf("Encode of no number: %q", s)
	}
	checkDecode(t, "", 0, nil, api.OK)
}

// R5: what is handed in stays as it was, and what is answered is not changed by what comes then.
func TestApart(t *testing.T) {
	l := []int{4, 9, -2, 7, 100}
	kept := slices.Clone(l)
	part := l[1:3]
	d, sums := delta.Deltas(part), delta.Sums(part)
	list, _ := delta.Decode(delta.Encode(part), 2)
	delta.Rising(part)
	if !slices.Equal(l, kept) {
		t.Errorf("what was handed in is %v, not %v", l, kept)
	}
	for i := range l {
		l[i] = -1
	}
	delta.Deltas(l)
	delta.Sums(l)
	delta.Encode(l)
	if !slices.Equal(d, []int{9, -11}) || !slices.Equal(sums, []int{9, 7}) || !slices.Equal(list, []int{9, -2}) {
		t.Errorf("what was answered is %v, %v and %v by now", d, sums, list)
	}
}
