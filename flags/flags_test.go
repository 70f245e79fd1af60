package flags_test

import (
	"encoding/binary"
	"math"
	"slices"
	"strings"
	"testing"

	"bonsai/api"
	"bonsai/flags"
	"bonsai/pack"
)

const x, o = true, false

// column is a list of flags, its lengths, their bytes, and how many flags are true.
type column struct {
	l     []bool
	n     []int
	s     string
	count int
}

// columns are what the document's words make by hand of some lists.
func columns() []column {
	return []column{
		{nil, nil, "", 0},
		{[]bool{}, []int{}, "", 0},
		{[]bool{o}, []int{1}, "\x01", 0},
		{[]bool{x}, []int{0, 1}, "\x00\x01", 1},
		{[]bool{x, x, o}, []int{0, 2, 1}, "\x00\x02\x01", 2},
		{[]bool{o, x, x}, []int{1, 2}, "\x01\x02", 2},
		{[]bool{o, o}, []int{2}, "\x02", 0},
		{[]bool{x, x}, []int{0, 2}, "\x00\x02", 2},
		{[]bool{o, x}, []int{1, 1}, "\x01\x01", 1},
		{[]bool{x, o}, []int{0, 1, 1}, "\x00\x01\x01", 1},
		{[]bool{x, o, x}, []int{0, 1, 1, 1}, "\x00\x01\x01\x01", 2},
		{[]bool{o, x, o, o, x}, []int{1, 1, 2, 1}, "\x01\x01\x02\x01", 2},
		{slices.Repeat([]bool{o}, 127), []int{127}, "\x7f", 0},
		{slices.Repeat([]bool{x}, 128), []int{0, 128}, "\x00\x80\x01", 128},
		{append(slices.Repeat([]bool{o}, 300), x), []int{300, 1}, "\xac\x02\x01", 1},
		{slices.Repeat([]bool{o}, 4096), []int{4096}, "\x80\x20", 0},
		{slices.Repeat([]bool{x}, 4096), []int{0, 4096}, "\x00\x80\x20", 4096},
	}
}

// lists goes by all lists of up to ten flags, and by some longer ones.
func lists(yield func([]bool) bool) {
	for size := range 11 {
		for u := range 1 << size {
			l := make([]bool, size)
			for i := range l {
				l[i] = u>>i&1 == 1
			}
			if !yield(l) {
				return
			}
		}
	}
	u := uint64(0x9e3779b97f4a7c15)
	next := func() uint64 {
		u = u*6364136223846793005 + 1442695040888963407
		return u ^ u>>29
	}
	for range 300 {
		var l []bool
		for range next() % 9 {
			l = append(l, slices.Repeat([]bool{next()%2 == 1}, int(next()%200))...)
		}
		if !yield(l) {
			return
		}
	}
}

// lengths tells by the document's words how long the parts of l are; parts are told as a text of 0 and 1.
func lengths(l []bool) []int {
	var n []int
	rest := digits(l)
	for i := 0; rest != ""; i++ {
		behind := strings.TrimLeft(rest, []string{"0", "1"}[i%2])
		n = append(n, len(rest)-len(behind))
		rest = behind
	}
	return n
}

// digits tells l as a text of 0 and 1.
func digits(l []bool) string {
	var b strings.Builder
	for _, flag := range l {
		if flag {
			b.WriteByte('1')
		} else {
			b.WriteByte('0')
		}
	}
	return b.String()
}

// bytes tells by the document's words what lengths are as bytes.
func bytes(n []int) string {
	var b []byte
	for _, one := range n {
		b = binary.AppendUvarint(b, uint64(one))
	}
	return string(b)
}

// P7.1: Lengths.
func TestLengths(t *testing.T) {
	for i, c := range columns() {
		if n := flags.Lengths(c.l); !slices.Equal(n, c.n) {
			t.Errorf("case %d: %v, not %v", i, n, c.n)
		}
	}
	for l := range lists {
		if n := flags.Lengths(l); !slices.Equal(n, lengths(l)) {
			t.Fatalf("Lengths of %s: %v", digits(l), n)
		}
	}
}

// P7.1: Count.
func TestCount(t *testing.T) {
	for i, c := range columns() {
		if count := flags.Count(c.l); count != c.count {
			t.Errorf("case %d: %d, not %d", i, count, c.count)
		}
	}
	for l := range lists {
		if count := flags.Count(l); count != strings.Count(digits(l), "1") {
			t.Fatalf("Count of %s: %d", digits(l), count)
		}
	}
}

// checkSpread holds what Spread tells against l and is.
func checkSpread(t *testing.T, n []int, most int, l []bool, is bool) {
	t.Helper()
	if got, ok := flags.Spread(n, most); !slices.Equal(got, l) || ok != is {
		t.Errorf("Spread of %v, %d: %s, %v", n, most, digits(got), ok)
	}
}

// P7.2: Spread, as long as the list may be, and no longer.
func TestSpread(t *testing.T) {
	for _, c := range columns() {
		for _, most := range []int{len(c.l), len(c.l) + 1, 5000, 1 << 31, math.MaxInt} {
			checkSpread(t, c.n, most, c.l, true)
		}
		for _, most := range []int{len(c.l) - 1, -1, math.MinInt} {
			checkSpread(t, c.n, most, nil, false)
		}
	}
	for l := range lists {
		checkSpread(t, lengths(l), len(l), l, true)
		checkSpread(t, lengths(l), len(l)-1, nil, false)
	}
	checkSpread(t, []int{3, 4997}, 5000, slices.Concat(make([]bool, 3), slices.Repeat([]bool{x}, 4997)), true)
}

// P7.2: Spread of all short lists of numbers: some are a list's lengths, and no others.
func TestSpreadAll(t *testing.T) {
	known := map[string][]bool{}
	for l := range lists {
		if len(l) <= 10 {
			known[bytes(lengths(l))] = l
		}
	}
	tries := [][]int{nil}
	for begin := 0; len(tries[begin]) < 5; begin++ {
		for _, length := range []int{-1, 0, 1, 2} {
			tries = append(tries, append(slices.Clone(tries[begin]), length))
		}
	}
	for _, n := range tries {
		l, is := []bool(nil), false
		if !slices.Contains(n, -1) {
			l, is = known[bytes(n)]
		}
		for most := -1; most <= 11; most++ {
			if is && most >= len(l) {
				checkSpread(t, n, most, l, true)
			} else {
				checkSpread(t, n, most, nil, false)
			}
		}
	}
}

// P7.2: Spread of what are no lengths, and of those that would be too many.
func TestSpreadWrong(t *testing.T) {
	for _, n := range [][]int{
		{0}, {-1}, {math.MinInt}, {0, 0}, {1, 0}, {1, 0, 1}, {0, 1, 0}, {0, 0, 1}, {0, -1}, {3, -2}, {3, -2, 3}, {-1, 1}, {-1, 2},
		{math.MinInt, math.MinInt}, {math.MinInt, math.MaxInt, 1},
	} {
		for _, most := range []int{math.MinInt, -1, 0, 1, 100, math.MaxInt} {
			checkSpread(t, n, most, nil, false)
		}
	}
	for _, n := range [][]int{
		{101}, {0, 101}, {100, 1}, {1, 100}, {math.MaxInt}, {1, math.MaxInt}, {math.MaxInt, 1}, {1 << 62, 1 << 62},
		{1 << 62, 1 << 62, 1 << 62, 1 << 62, 7}, {math.MaxInt, math.MaxInt, 3},
	} {
		checkSpread(t, n, 100, nil, false)
	}
}

// R1: a list beyond all bounds is none, and nothing panics.
func TestSpreadEndless(t *testing.T) {
	for _, n := range [][]int{{1 << 31}, {0, 1 << 31}, {math.MaxInt}, {1 << 62, 1 << 62}, {1<<31 - 1, 1}, {1 << 62, 1 << 62, 1 << 62, 1 << 62, 7}} {
		checkSpread(t, n, math.MaxInt, nil, false)
	}
}

// P7.3: Encode.
func TestEncode(t *testing.T) {
	for i, c := range columns() {
		if s := flags.Encode(c.l); s != c.s {
			t.Errorf("case %d: %q, not %q", i, s, c.s)
		}
	}
	for l := range lists {
		if s := flags.Encode(l); s != bytes(lengths(l)) {
			t.Fatalf("Encode of %s: %q", digits(l), s)
		}
	}
	if s := flags.Encode(slices.Repeat([]bool{x}, 5000)); s != "\x00\x88\x27" {
		t.Errorf("Encode of 5000 true ones: %q", s)
	}
}

// checkDecode holds what Decode tells against l and e.
func checkDecode(t *testing.T, s string, n int, l []bool, e api.Errno) {
	t.Helper()
	if got, err := flags.Decode(s, n); !slices.Equal(got, l) || err != e {
		t.Errorf("Decode of %q, %d: %s, %d, not %s, %d", s, n, digits(got), err, digits(l), e)
	}
}

// P7.3, P7.4: Decode of what Encode told.
func TestDecode(t *testing.T) {
	for _, c := range columns() {
		checkDecode(t, c.s, len(c.l), c.l, api.OK)
	}
	for l := range lists {
		s := flags.Encode(l)
		checkDecode(t, s, len(l), l, api.OK)
		checkDecode(t, s, len(l)+1, nil, api.ErrForm)
		checkDecode(t, s+"\x80", len(l), nil, api.ErrCut)
		checkDecode(t, s+"\x80\x00", len(l), nil, api.ErrLong)
		checkDecode(t, s+"\x01", len(l), nil, api.ErrForm)
		checkDecode(t, s+"\x00", len(l), nil, api.ErrForm)
		if len(l) > 0 {
			checkDecode(t, s, len(l)-1, nil, api.ErrForm)
		}
	}
}

// P7.3, R2: Decode of what is wrong, the first error ahead of all others.
func TestDecodeWrong(t *testing.T) {
	const most = "\xff\xff\xff\xff\xff\xff\xff\xff\xff\x01"
	for _, c := range []struct {
		s string
		n int
		e api.Errno
	}{
		{"", -1, api.ErrArg}, {"", math.MinInt, api.ErrArg}, {"\x01", -1, api.ErrArg}, {"\x80", -1, api.ErrArg}, {"\x00", -1, api.ErrArg},
		{"", 4097, api.ErrBig}, {"", math.MaxInt, api.ErrBig}, {"\x80", 4097, api.ErrBig}, {"\x81\x20", 4097, api.ErrBig}, {"\x01\x00", 1 << 62, api.ErrBig},
		{"\x80", 0, api.ErrCut}, {"\x80", 1, api.ErrCut}, {"\x80", 4096, api.ErrCut}, {"\x00\x80", 0, api.ErrCut}, {"\x00\x80", 1, api.ErrCut},
		{"\x01\x80", 1, api.ErrCut}, {"\x01\x80", 2, api.ErrCut}, {"\x01\x01\xff", 2, api.ErrCut}, {"\xff\xff\xff", 1, api.ErrCut},
		{"\x80\x00", 0, api.ErrLong}, {"\x80\x00", 1, api.ErrLong}, {"\x81\x00", 1, api.ErrLong}, {"\x00\x81\x00", 1, api.ErrLong},
		{"\x01\x80\x00", 1, api.ErrLong}, {"\x01\x80\x00", 2, api.ErrLong}, {"\x80\x00\x80", 2, api.ErrLong}, {"\xff\xff\xff\xff\xff\xff\xff\xff\xff\x02", 1, api.ErrLong},
		{"\x00", 0, api.ErrForm}, {"\x00", 1, api.ErrForm}, {"\x00", 4096, api.ErrForm},
		{"\x00\x00", 0, api.ErrForm}, {"\x00\x00", 1, api.ErrForm}, {"\x00\x00\x01", 1, api.ErrForm}, {"\x00\x00\x80", 1, api.ErrForm},
		{"\x01\x00", 1, api.ErrForm}, {"\x01\x00", 2, api.ErrForm}, {"\x01\x00\x01", 2, api.ErrForm}, {"\x01\x00\x80", 2, api.ErrForm}, {"\x00\x01\x00", 1, api.ErrForm}, {"\x00\x01\x00\x01", 2, api.ErrForm},
		{"\x01", 0, api.ErrForm}, {"\x00\x01", 0, api.ErrForm}, {"\x02", 1, api.ErrForm}, {"\x02\x80", 1, api.ErrForm}, {"\x02\x80\x00", 1, api.ErrForm}, {"\x00\x02", 1, api.ErrForm},
		{"\x01\x01", 1, api.ErrForm}, {"\x01\x02", 2, api.ErrForm}, {"\x01\x01\x80", 1, api.ErrForm}, {"\x00\x01\x01", 1, api.ErrForm},
		{most, 0, api.ErrForm}, {most, 9, api.ErrForm}, {most, 4096, api.ErrForm}, {"\x01" + most, 4096, api.ErrForm}, {"\x00" + most, 1, api.ErrForm}, {most + "\x01", 1, api.ErrForm}, {"\x80\x80\x80\x80\x80\x80\x80\x80\x80\x01\x01", 1, api.ErrForm},
		{"\xff\xff\xff\xff\xff\xff\xff\xff\x7f", 4096, api.ErrForm}, {"\x80\x80\x80\x80\x80\x80\x80\x80\x80\x01", 4096, api.ErrForm}, {"\x01" + most + "\x01", 2, api.ErrForm},
		{"\x81\x20", 4096, api.ErrForm}, {"\x00\x81\x20", 4096, api.ErrForm}, {"\x80\x80\x80\x80\x10", 0, api.ErrForm},
		{"", 1, api.ErrForm}, {"", 4096, api.ErrForm}, {"\x01", 2, api.ErrForm}, {"\x00\x01", 2, api.ErrForm}, {"\x01\x01", 3, api.ErrForm}, {"\xff\x1f", 4096, api.ErrForm},
	} {
		checkDecode(t, c.s, c.n, nil, c.e)
	}
	checkDecode(t, "\xff\x1f\x01", 4096, append(make([]bool, 4095), x), api.OK)
}

// decode tells by the document's words what Decode is to tell.
func decode(s string, n int) ([]bool, api.Errno) {
	switch {
	case n < 0:
		return nil, api.ErrArg
	case n > 4096:
		return nil, api.ErrBig
	}
	var list []bool
	told := 0
	r := pack.New(s)
	for ; r.Left() > 0; told++ {
		length := r.Num()
		switch {
		case r.Err() != api.OK:
			return nil, r.Err()
		case length > 4096, int(length)+len(list) > n, length == 0 && told > 0:
			return nil, api.ErrForm
		}
		list = append(list, slices.Repeat([]bool{told%2 == 1}, int(length))...)
	}
	if len(list) != n || told == 1 && s[0] == 0 {
		return nil, api.ErrForm
	}
	return list, api.OK
}

// P7.3, P7.4: all texts of up to five bytes of some: each is no list, or just one's.
func TestDecodeAll(t *testing.T) {
	texts := []string{""}
	for begin := 0; len(texts[begin]) < 5; begin++ {
		for _, b := range []byte{0, 1, 2, 3, 128, 129, 255} {
			texts = append(texts, texts[begin]+string([]byte{b}))
		}
	}
	good := 0
	for _, s := range texts {
		for _, n := range []int{-1, 0, 1, 2, 3, 4, 5, 129, 131, 4097} {
			l, e := decode(s, n)
			checkDecode(t, s, n, l, e)
			if e != api.OK {
				continue
			}
			good++
			if len(l) != n || flags.Encode(l) != s {
				t.Errorf("%q is %s, of which Encode is %q", s, digits(l), flags.Encode(l))
			}
		}
	}
	if good < 50 {
		t.Errorf("no more than %d texts are a list's", good)
	}
}

// P7.4: no two lists are encoded alike, and a text is no list of another length.
func TestOne(t *testing.T) {
	seen := map[string]string{}
	for l := range lists {
		s := flags.Encode(l)
		if other, is := seen[s]; is && other != digits(l) {
			t.Fatalf("%s and %s are both %q", other, digits(l), s)
		}
		seen[s] = digits(l)
		for n := range 12 {
			if _, e := flags.Decode(s, n); (e == api.OK) != (n == len(l)) {
				t.Fatalf("%q, as %d flags: %d", s, n, e)
			}
		}
	}
}

// R5: what is handed in stays as it was, and what is answered is not changed by what comes then.
func TestApart(t *testing.T) {
	all := []bool{x, x, x, o, o, x, o}
	kept := slices.Clone(all)
	part := all[1:5]
	n := flags.Lengths(part)
	s := flags.Encode(part)
	flags.Count(part)
	a, _ := flags.Spread(n, 4)
	b, _ := flags.Decode(s, 4)
	if !slices.Equal(all, kept) || !slices.Equal(n, []int{0, 2, 2}) {
		t.Errorf("what was handed in is %v and %v by now", all, n)
	}
	for i := range all {
		all[i] = !all[i]
	}
	clear(n)
	flags.Lengths(all)
	flags.Spread([]int{0, 1, 1, 1, 1}, 4)
	flags.Decode("\x01\x01\x01\x01", 4)
	if want := []bool{x, x, o, o}; !slices.Equal(a, want) || !slices.Equal(b, want) {
		t.Errorf("what was answered is %v and %v by now", a, b)
	}
}

// R6: what is told hangs on no earlier call.
func TestAgain(t *testing.T) {
	for range 3 {
		for _, c := range columns() {
			if n := flags.Lengths(c.l); !slices.Equal(n, c.n) {
				t.Errorf("%v, not %v", n, c.n)
			}
			checkSpread(t, c.n, len(c.l), c.l, true)
			checkSpread(t, []int{1, 0}, 9, nil, false)
			checkDecode(t, c.s, len(c.l), c.l, api.OK)
			checkDecode(t, "\x01\x00", 1, nil, api.ErrForm)
		}
	}
}
