package runs_test

import (
	"encoding/binary"
	"math"
	"slices"
	"strings"
	"testing"

	"bonsai/api"
	"bonsai/pack"
	"bonsai/runs"
)

// column is a list of numbers, its runs, and their bytes.
type column struct {
	l []uint64
	r []api.Run
	s string
}

// columns are what the document's words make by hand of some lists.
func columns() []column {
	const top = math.MaxUint64
	return []column{
		{nil, nil, ""},
		{[]uint64{}, []api.Run{}, ""},
		{[]uint64{0}, []api.Run{{Value: 0, Count: 1}}, "\x00\x01"},
		{[]uint64{0, 0}, []api.Run{{Value: 0, Count: 2}}, "\x00\x02"},
		{[]uint64{5}, []api.Run{{Value: 5, Count: 1}}, "\x05\x01"},
		{[]uint64{7, 7, 0}, []api.Run{{Value: 7, Count: 2}, {Value: 0, Count: 1}}, "\x07\x02\x00\x01"},
		{[]uint64{0, 7, 7}, []api.Run{{Value: 0, Count: 1}, {Value: 7, Count: 2}}, "\x00\x01\x07\x02"},
		{[]uint64{1, 2, 1}, []api.Run{{Value: 1, Count: 1}, {Value: 2, Count: 1}, {Value: 1, Count: 1}}, "\x01\x01\x02\x01\x01\x01"},
		{[]uint64{3, 3, 2, 3, 3, 3}, []api.Run{{Value: 3, Count: 2}, {Value: 2, Count: 1}, {Value: 3, Count: 3}}, "\x03\x02\x02\x01\x03\x03"},
		{[]uint64{top, top, 0, top}, []api.Run{{Value: top, Count: 2}, {Value: 0, Count: 1}, {Value: top, Count: 1}}, "\xff\xff\xff\xff\xff\xff\xff\xff\xff\x01\x02\x00\x01\xff\xff\xff\xff\xff\xff\xff\xff\xff\x01\x01"},
		{[]uint64{1 << 63, 1<<63 - 1}, []api.Run{{Value: 1 << 63, Count: 1}, {Value: 1<<63 - 1, Count: 1}}, "\x80\x80\x80\x80\x80\x80\x80\x80\x80\x01\x01\xff\xff\xff\xff\xff\xff\xff\xff\x7f\x01"},
		{slices.Repeat([]uint64{300}, 127), []api.Run{{Value: 300, Count: 127}}, "\xac\x02\x7f"},
		{slices.Repeat([]uint64{300}, 128), []api.Run{{Value: 300, Count: 128}}, "\xac\x02\x80\x01"},
		{append(slices.Repeat([]uint64{1}, 300), 0), []api.Run{{Value: 1, Count: 300}, {Value: 0, Count: 1}}, "\x01\xac\x02\x00\x01"},
		{slices.Repeat([]uint64{9}, 4096), []api.Run{{Value: 9, Count: 4096}}, "\x09\x80\x20"},
	}
}

// lists goes by all lists of up to six numbers of three, and by some longer ones.
func lists(yield func([]uint64) bool) {
	short := [][]uint64{nil}
	for begin := 0; len(short[begin]) < 6; begin++ {
		for _, v := range []uint64{0, 1, math.MaxUint64} {
			short = append(short, append(slices.Clone(short[begin]), v))
		}
	}
	for _, l := range short {
		if !yield(l) {
			return
		}
	}
	u := uint64(0x9e3779b97f4a7c15)
	next := func() uint64 {
		u = u*6364136223846793005 + 1442695040888963407
		return u ^ u>>29
	}
	for range 300 {
		var l []uint64
		for range next() % 9 {
			l = append(l, slices.Repeat([]uint64{next() >> (next() % 64)}, int(next()%200))...)
		}
		if !yield(l) {
			return
		}
	}
}

// bytes tells by the document's words what runs are as bytes.
func bytes(r []api.Run) string {
	var b []byte
	for _, one := range r {
		b = binary.AppendUvarint(b, one.Value)
		b = binary.AppendUvarint(b, uint64(one.Count))
	}
	return string(b)
}

// P6.1: Runs.
func TestRuns(t *testing.T) {
	for i, c := range columns() {
		if r := runs.Runs(c.l); !slices.Equal(r, c.r) {
			t.Errorf("case %d: %v, not %v", i, r, c.r)
		}
	}
	for l := range lists {
		var all []uint64
		r := runs.Runs(l)
		for i, one := range r {
			if one.Count < 1 || i > 0 && one.Value == r[i-1].Value {
				t.Fatalf("Runs of %v: %v", l, r)
			}
			all = append(all, slices.Repeat([]uint64{one.Value}, one.Count)...)
		}
		if !slices.Equal(all, l) {
			t.Fatalf("Runs of %v: %v", l, r)
		}
	}
}

// P6.1: May.
func TestMay(t *testing.T) {
	for i, c := range columns() {
		if !runs.May(c.r) {
			t.Errorf("case %d: %v may not be", i, c.r)
		}
	}
	for i, c := range []struct {
		r   []api.Run
		may bool
	}{
		{[]api.Run{{Value: 1, Count: math.MaxInt}}, true},
		{[]api.Run{{Value: 1, Count: math.MaxInt}, {Value: 2, Count: math.MaxInt}}, true},
		{[]api.Run{{Value: 0, Count: 1}, {Value: 1, Count: 1}, {Value: 0, Count: 1}}, true},
		{[]api.Run{{}}, false},
		{[]api.Run{{Value: 1, Count: 0}}, false},
		{[]api.Run{{Value: 1, Count: -1}}, false},
		{[]api.Run{{Value: 1, Count: math.MinInt}}, false},
		{[]api.Run{{Value: 1, Count: 1}, {Value: 2, Count: 0}}, false},
		{[]api.Run{{Value: 1, Count: 0}, {Value: 2, Count: 1}}, false},
		{[]api.Run{{Value: 1, Count: 1}, {Value: 2, Count: -1}, {Value: 3, Count: 1}}, false},
		{[]api.Run{{Value: 1, Count: 1}, {Value: 1, Count: 1}}, false},
		{[]api.Run{{Value: 0, Count: 2}, {Value: 0, Count: 3}}, false},
		{[]api.Run{{Value: 0, Count: 1}, {Value: 5, Count: 2}, {Value: 5, Count: 3}}, false},
		{[]api.Run{{Value: 5, Count: 1}, {Value: 5, Count: 2}, {Value: 0, Count: 3}}, false},
	} {
		if may := runs.May(c.r); may != c.may {
			t.Errorf("case %d: May of %v: %v", i, c.r, may)
		}
	}
}

// checkSpread holds what Spread tells against l and is.
func checkSpread(t *testing.T, r []api.Run, most int, l []uint64, is bool) {
	t.Helper()
	if got, ok := runs.Spread(r, most); !slices.Equal(got, l) || ok != is {
		t.Errorf("Spread of %v, %d: %v, %v", r, most, got, ok)
	}
}

// P6.2: Spread, as long as the list may be, and no longer.
func TestSpread(t *testing.T) {
	for _, c := range columns() {
		for _, most := range []int{len(c.l), len(c.l) + 1, 5000, 1 << 31, math.MaxInt} {
			checkSpread(t, c.r, most, c.l, true)
		}
		for _, most := range []int{len(c.l) - 1, -1, math.MinInt} {
			checkSpread(t, c.r, most, nil, false)
		}
	}
	for l := range lists {
		r := runs.Runs(l)
		checkSpread(t, r, len(l), l, true)
		checkSpread(t, r, len(l)-1, nil, false)
	}
}

// P6.2: Spread of runs that may not be, and of those that would be too many.
func TestSpreadWrong(t *testing.T) {
	for _, r := range [][]api.Run{
		{{}}, {{Value: 1, Count: 0}}, {{Value: 1, Count: -1}}, {{Value: 1, Count: math.MinInt}, {Value: 2, Count: math.MinInt}},
		{{Value: 1, Count: 1}, {Value: 1, Count: 1}}, {{Value: 1, Count: 1}, {Value: 2, Count: 0}}, {{Value: 1, Count: 3}, {Value: 2, Count: -2}},
	} {
		for _, most := range []int{math.MinInt, -1, 0, 1, 100, math.MaxInt} {
			checkSpread(t, r, most, nil, false)
		}
	}
	for _, r := range [][]api.Run{
		{{Value: 1, Count: 101}}, {{Value: 1, Count: 100}, {Value: 2, Count: 1}}, {{Value: 1, Count: 1}, {Value: 2, Count: 100}},
		{{Value: 1, Count: math.MaxInt}}, {{Value: 1, Count: 1}, {Value: 2, Count: math.MaxInt}},
		{{Value: 1, Count: 1 << 62}, {Value: 2, Count: 1 << 62}},
		{{Value: 1, Count: 1 << 62}, {Value: 2, Count: 1 << 62}, {Value: 3, Count: 1 << 62}, {Value: 4, Count: 1 << 62}, {Value: 5, Count: 7}},
	} {
		checkSpread(t, r, 100, nil, false)
	}
}

// R1: a list beyond all bounds is none, and nothing panics.
func TestSpreadEndless(t *testing.T) {
	for _, r := range [][]api.Run{
		{{Value: 1, Count: 1 << 31}}, {{Value: 1, Count: math.MaxInt}}, {{Value: 1, Count: 1 << 62}, {Value: 2, Count: 1 << 62}},
		{{Value: 1, Count: 1<<31 - 1}, {Value: 2, Count: 1}},
	} {
		checkSpread(t, r, math.MaxInt, nil, false)
	}
}

// P6.3: Encode.
func TestEncode(t *testing.T) {
	for i, c := range columns() {
		if s := runs.Encode(c.l); s != c.s {
			t.Errorf("case %d: %q, not %q", i, s, c.s)
		}
	}
	for l := range lists {
		if s := runs.Encode(l); s != bytes(runs.Runs(l)) {
			t.Fatalf("Encode of %v: %q", l, s)
		}
	}
	if s := runs.Encode(make([]uint64, 5000)); s != "\x00\x88\x27" {
		t.Errorf("Encode of 5000 noughts: %q", s)
	}
}

// checkDecode holds what Decode tells against l and e.
func checkDecode(t *testing.T, s string, n int, l []uint64, e api.Errno) {
	t.Helper()
	if got, err := runs.Decode(s, n); !slices.Equal(got, l) || err != e {
		t.Errorf("Decode of %q, %d: %v, %d, not %v, %d", s, n, got, err, l, e)
	}
}

// P6.3, P6.4: Decode of what Encode told.
func TestDecode(t *testing.T) {
	for _, c := range columns() {
		checkDecode(t, c.s, len(c.l), c.l, api.OK)
	}
	for l := range lists {
		s := runs.Encode(l)
		checkDecode(t, s, len(l), l, api.OK)
		checkDecode(t, s, len(l)+1, nil, api.ErrForm)
		checkDecode(t, s+"\x02", len(l), nil, api.ErrCut)
		checkDecode(t, s+"\x02\x01", len(l), nil, api.ErrForm)
		if len(l) > 0 {
			checkDecode(t, s, len(l)-1, nil, api.ErrForm)
			checkDecode(t, s[:len(s)-1], len(l), nil, api.ErrCut)
		}
	}
}

// P6.3, R2: Decode of what is wrong, the first error ahead of all others.
func TestDecodeWrong(t *testing.T) {
	const most = "\xff\xff\xff\xff\xff\xff\xff\xff\xff\x01"
	for _, c := range []struct {
		s string
		n int
		e api.Errno
	}{
		{"", -1, api.ErrArg}, {"", math.MinInt, api.ErrArg}, {"\x07\x01", -1, api.ErrArg}, {"\x80", -1, api.ErrArg},
		{"", 4097, api.ErrBig}, {"", math.MaxInt, api.ErrBig}, {"\x80", 4097, api.ErrBig}, {"\x09\x81\x20", 4097, api.ErrBig}, {"\x07\x00", 1 << 62, api.ErrBig},
		{"\x80", 1, api.ErrCut}, {"\x07", 1, api.ErrCut}, {"\x07\x80", 1, api.ErrCut}, {"\x07", 0, api.ErrCut}, {"\x07\x80", 0, api.ErrCut},
		{"\x07\x01\x07", 1, api.ErrCut}, {"\x07\x01\x08", 1, api.ErrCut}, {"\x07\x01\x08\x80", 1, api.ErrCut}, {"\x07\x01\x80", 2, api.ErrCut},
		{"\x80\x00", 1, api.ErrLong}, {"\x80\x00\x01", 1, api.ErrLong}, {"\x80\x00\x80", 1, api.ErrLong}, {"\x07\x80\x00", 1, api.ErrLong}, {"\x07\x81\x00", 4096, api.ErrLong},
		{"\x07\x01\x87\x00\x01", 2, api.ErrLong}, {"\x07\x01\x07\x80\x00", 2, api.ErrLong}, {"\x07\x01\x08\x80\x00", 1, api.ErrLong}, {"\x07\xff\xff\xff\xff\xff\xff\xff\xff\xff\x02", 1, api.ErrLong},
		{"\x07\x00", 0, api.ErrForm}, {"\x07\x00", 1, api.ErrForm}, {"\x07\x00\x80", 1, api.ErrForm}, {"\x07\x01", 0, api.ErrForm},
		{"\x07\x02", 1, api.ErrForm}, {"\x07\x02\x80", 1, api.ErrForm}, {"\x07\x01\x08\x00", 1, api.ErrForm}, {"\x07\x01\x08\x00", 2, api.ErrForm},
		{"\x07\x01\x08\x02", 2, api.ErrForm}, {"\x07" + most, 1, api.ErrForm}, {"\x07" + most, 4096, api.ErrForm}, {"\x07\xff\xff\xff\xff\xff\xff\xff\xff\x7f", 4096, api.ErrForm},
		{"\x07\x01\x08" + most, 4096, api.ErrForm}, {"\x09\x81\x20", 4096, api.ErrForm},
		{"\x07" + most + "\x08\x01", 1, api.ErrForm}, {"\x07\x80\x80\x80\x80\x80\x80\x80\x80\x80\x01\x08\x02", 2, api.ErrForm},
		{"\x07\x01\x07\x01", 2, api.ErrForm}, {"\x00\x01\x00\x01", 2, api.ErrForm}, {"\x07\x01\x07\x01\x80", 3, api.ErrForm}, {"\x07\x01\x08\x01\x08\x01", 3, api.ErrForm},
		{"", 1, api.ErrForm}, {"", 4096, api.ErrForm}, {"\x07\x01", 2, api.ErrForm}, {"\x07\x01\x08\x01", 3, api.ErrForm},
	} {
		checkDecode(t, c.s, c.n, nil, c.e)
	}
	checkDecode(t, "\x09\xff\x1f\x08\x01", 4096, append(slices.Repeat([]uint64{9}, 4095), 8), api.OK)
}

// decode tells by the document's words what Decode is to tell.
func decode(s string, n int) ([]uint64, api.Errno) {
	switch {
	case n < 0:
		return nil, api.ErrArg
	case n > 4096:
		return nil, api.ErrBig
	}
	var list []uint64
	var last *uint64
	r := pack.New(s)
	for r.Left() > 0 {
		v := r.Num()
		if r.Err() != api.OK {
			return nil, r.Err()
		}
		c := r.Num()
		switch {
		case r.Err() != api.OK:
			return nil, r.Err()
		case c == 0, c > 4096, int(c)+len(list) > n, last != nil && *last == v:
			return nil, api.ErrForm
		}
		list, last = append(list, slices.Repeat([]uint64{v}, int(c))...), &v
	}
	if len(list) != n {
		return nil, api.ErrForm
	}
	return list, api.OK
}

// P6.3, P6.4: all texts of up to five bytes of some: each is no list, or just one's.
func TestDecodeAll(t *testing.T) {
	texts := []string{""}
	for begin := 0; len(texts[begin]) < 5; begin++ {
		for _, b := range []byte{0, 1, 2, 3, 128, 129, 255} {
			texts = append(texts, texts[begin]+string([]byte{b}))
		}
	}
	good := 0
	for _, s := range texts {
		for _, n := range []int{-1, 0, 1, 2, 3, 4, 5, 129, 131, 4097} {
			l, e := decode(s, n)
			checkDecode(t, s, n, l, e)
			if e != api.OK {
				continue
			}
			good++
			if len(l) != n || runs.Encode(l) != s {
				t.Errorf("%q is %v, of which Encode is %q", s, l, runs.Encode(l))
			}
		}
	}
	if good < 50 {
		t.Errorf("no more than %d texts are a list's", good)
	}
}

// P6.4: no two lists are encoded alike, and a text is no list of another length.
func TestOne(t *testing.T) {
	seen := map[string][]uint64{}
	for l := range lists {
		s := runs.Encode(l)
		if other, is := seen[s]; is && !slices.Equal(other, l) {
			t.Fatalf("%v and %v are both %q", other, l, s)
		}
		seen[s] = l
		for n := range 8 {
			if _, e := runs.Decode(s, n); (e == api.OK) != (n == len(l)) {
				t.Fatalf("%q, as %d numbers: %d", s, n, e)
			}
		}
	}
}

// R5: what is handed in stays as it was, and what is answered is not changed by what comes then.
func TestApart(t *testing.T) {
	l := []uint64{4, 4, 9, 9, 9, 4}
	kept := slices.Clone(l)
	r := runs.Runs(l)
	s := runs.Encode(l)
	a, _ := runs.Spread(r, 6)
	b, _ := runs.Decode(s, 6)
	if !slices.Equal(l, kept) || !slices.Equal(r, runs.Runs(kept)) {
		t.Errorf("what was handed in is %v and %v by now", l, r)
	}
	for i := range l {
		l[i] = uint64(i)
	}
	for i := range r {
		r[i] = api.Run{}
	}
	runs.Runs(l)
	runs.Spread([]api.Run{{Value: 1, Count: 6}}, 6)
	runs.Decode(strings.Repeat("\x01\x01\x00\x01", 3), 6)
	if !slices.Equal(a, kept) || !slices.Equal(b, kept) {
		t.Errorf("what was answered is %v and %v by now", a, b)
	}
}
