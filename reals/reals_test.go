package reals_test

import (
	"encoding/binary"
	"math"
	"slices"
	"strings"
	"testing"

	"bonsai/api"
	"bonsai/pack"
	"bonsai/reals"
)

const noNumber = 0x7ff8000000000000

// column is a list of numbers, and its bytes.
type column struct {
	l []float64
	s string
}

// columns are what the document's words make by hand of some lists, of nought with a minus and of no number among them.
func columns() []column {
	none, endless, minus := math.NaN(), math.Inf(1), math.Copysign(0, -1)
	return []column{
		{nil, ""},
		{[]float64{}, ""},
		{[]float64{0}, "\x00"},
		{[]float64{0, 0, 0}, "\x00\x00\x00"},
		{[]float64{minus}, "\x80\x01"},
		{[]float64{minus, minus}, "\x80\x01\x00"},
		{[]float64{minus, 0}, "\x80\x01\x80\x01"},
		{[]float64{0, minus}, "\x00\x80\x01"},
		{[]float64{1}, "\xbf\xe0\x03"},
		{[]float64{1, 1}, "\xbf\xe0\x03\x00"},
		{[]float64{-1}, "\xbf\xe1\x03"},
		{[]float64{1, -1, 1}, "\xbf\xe0\x03\x80\x01\x80\x01"},
		{[]float64{0, 1, 0, 1}, "\x00\xbf\xe0\x03\xbf\xe0\x03\xbf\xe0\x03"},
		{[]float64{2}, "\x40"},
		{[]float64{2, 0.5}, "\x40\xff\xc0\x03"},
		{[]float64{1, 2, 3}, "\xbf\xe0\x03\xff\xe0\x03\x80\x10"},
		{[]float64{0x1p-1074}, "\x80\x80\x80\x80\x80\x80\x80\x80\x01"},
		{[]float64{0x1p-1074, 0x1p-1073}, "\x80\x80\x80\x80\x80\x80\x80\x80\x01\x80\x80\x80\x80\x80\x80\x80\x80\x03"},
		{[]float64{0x0.fffffffffffffp-1022}, "\x80\x9e\xfc\xff\xff\xff\xff\xff\xff\x01"},
		{[]float64{0x1p-1022}, "\x80\x20"},
		{[]float64{math.MaxFloat64}, "\xff\xde\xff\xff\xff\xff\xff\xff\xff\x01"},
		{[]float64{-math.MaxFloat64}, "\xff\xdf\xff\xff\xff\xff\xff\xff\xff\x01"},
		{[]float64{endless}, "\xff\xe0\x03"},
		{[]float64{endless, -endless}, "\xff\xe0\x03\x80\x01"},
		{[]float64{-endless, math.MaxFloat64}, "\xff\xe1\x03\x80\xbf\xfc\xff\xff\xff\xff\xff\xff\x01"},
		{[]float64{none}, "\xff\xf0\x03"},
		{[]float64{none, none}, "\xff\xf0\x03\x00"},
		{[]float64{endless, none}, "\xff\xe0\x03\x80\x10"},
	}
}

// bits tells by the document's words the bits of f.
func bits(f float64) uint64 {
	if f != f {
		return noNumber
	}
	return math.Float64bits(f)
}

// may tells by the document's words whether u are the bits of a number.
func may(u uint64) bool {
	return u>>52&2047 != 2047 || u<<12 == 0 || u == noNumber
}

// swap tells by the document's words the bytes of u in the other order.
func swap(u uint64) uint64 {
	return binary.LittleEndian.Uint64(binary.BigEndian.AppendUint64(nil, u))
}

// bytes tells by the document's words what l is as bytes.
func bytes(l []float64) string {
	var b []byte
	for i, f := range l {
		u := bits(f)
		if i > 0 {
			u ^= bits(l[i-1])
		}
		b = binary.AppendUvarint(b, swap(u))
	}
	return string(b)
}

// same tells by the document's words whether a and b are of the same bits.
func same(a, b []float64) bool {
	return slices.EqualFunc(a, b, func(f, g float64) bool { return bits(f) == bits(g) })
}

// patterns goes without an end by bits of numbers of all kinds, that look like chance, and are the same each time.
func patterns() func() uint64 {
	u := uint64(0x9e3779b97f4a7c15)
	step := func() uint64 {
		u = u*6364136223846793005 + 1442695040888963407
		return u ^ u>>29
	}
	edges := []uint64{0, 1, 1<<51 - 1, 1 << 51, 1<<51 + 1, 1<<52 - 1}
	tops := []uint64{0, 1, 1022, 1023, 1024, 2046, 2047}
	return func() uint64 {
		minus := step() % 2 << 63
		switch step() % 4 {
		case 0:
			return minus | tops[step()%7]<<52 | edges[step()%6]
		case 1:
			return minus | math.Float64bits(float64(step()%100))
		case 2:
			return minus | math.Float64bits(float64(step()%100)/10)
		}
		return step()
	}
}

// lists goes by all lists of up to four numbers of some, and by some longer ones.
func lists(yield func([]float64) bool) {
	short := [][]float64{nil}
	for begin := 0; len(short[begin]) < 4; begin++ {
		for _, f := range []float64{0, math.Copysign(0, -1), 1, -1.5, math.Inf(-1), math.NaN(), 0x1p-1074} {
			short = append(short, append(slices.Clone(short[begin]), f))
		}
	}
	for _, l := range short {
		if !yield(l) {
			return
		}
	}
	next := patterns()
	for i := range 1000 {
		l := make([]float64, i%60)
		for j := range l {
			l[j] = math.Float64frombits(next())
		}
		if !yield(l) {
			return
		}
	}
}

// P9.1: Swap.
func TestSwap(t *testing.T) {
	for u, want := range map[uint64]uint64{
		0: 0, 1: 1 << 56, 1 << 56: 1, 0xff: 0xff << 56, 0x0102030405060708: 0x0807060504030201, 0xf0: 0xf0 << 56, 0x80: 1 << 63, 1 << 63: 0x80,
		0x3ff0000000000000: 0xf03f, 0x1200: 0x12 << 48, 0x340000: 0x34 << 40, 0x56000000: 0x56 << 32, 1<<32 - 1: 0xffffffff << 32, 1<<64 - 1: 1<<64 - 1,
	} {
		if got := reals.Swap(u); got != want {
			t.Errorf("Swap of %#x: %#x, not %#x", u, got, want)
		}
	}
	next := patterns()
	for range 2000 {
		u := next()
		if got := reals.Swap(u); got != swap(u) || reals.Swap(got) != u {
			t.Errorf("Swap of %#x: %#x, not %#x", u, got, swap(u))
		}
	}
}

// P9.2: Encode.
func TestEncode(t *testing.T) {
	for i, c := range columns() {
		if s := reals.Encode(c.l); s != c.s {
			t.Errorf("case %d: %q, not %q", i, s, c.s)
		}
	}
	for l := range lists {
		if s := reals.Encode(l); s != bytes(l) {
			t.Fatalf("Encode of %v: %q, not %q", l, s, bytes(l))
		}
	}
	if s := reals.Encode(slices.Repeat([]float64{1}, 5000)); s != "\xbf\xe0\x03"+strings.Repeat("\x00", 4999) {
		t.Errorf("Encode of 5000 numbers has %d bytes", len(s))
	}
}

// P9.2, P9.4: all that is no number is one, and is told as one.
func TestNone(t *testing.T) {
	for _, u := range []uint64{noNumber, 1<<63 | noNumber, 0x7ff0000000000001, 0xfff0000000000001, 0x7fffffffffffffff, 1<<64 - 1} {
		f := math.Float64frombits(u)
		if s := reals.Encode([]float64{f, f, 1}); s != "\xff\xf0\x03\x00\xc0\x10" {
			t.Errorf("Encode of what has %#x: %q", u, s)
		}
		if !reals.Same([]float64{f}, []float64{math.NaN()}) {
			t.Errorf("what has %#x is another number", u)
		}
	}
}

// checkDecode holds what Decode tells against l and e.
func checkDecode(t *testing.T, s string, n int, l []float64, e api.Errno) {
	t.Helper()
	if got, err := reals.Decode(s, n); !same(got, l) || err != e {
		t.Errorf("Decode of %q, %d: %v, %d, not %v, %d", s, n, got, err, l, e)
	}
}

// P9.2, P9.4: Decode of what Encode told.
func TestDecode(t *testing.T) {
	for _, c := range columns() {
		checkDecode(t, c.s, len(c.l), c.l, api.OK)
	}
	for l := range lists {
		s := bytes(l)
		checkDecode(t, s, len(l), l, api.OK)
		checkDecode(t, s+"\x00", len(l), nil, api.ErrForm)
		checkDecode(t, s+"\x80", len(l), nil, api.ErrForm)
		checkDecode(t, s+"\x80", len(l)+1, nil, api.ErrCut)
		checkDecode(t, s+"\x80\x00", len(l)+1, nil, api.ErrLong)
		// Minus endless comes behind, and the bits that are next to its own, which no number has.
		far := uint64(0xfff0000000000000)
		if len(l) > 0 {
			far ^= bits(l[len(l)-1])
		}
		checkDecode(t, s+pack.Put(swap(far)), len(l)+1, append(slices.Clone(l), math.Inf(-1)), api.OK)
		checkDecode(t, s+pack.Put(swap(far^1)), len(l)+1, nil, api.ErrForm)
		checkDecode(t, s, len(s)+1, nil, api.ErrCut)
		checkDecode(t, s, -1, nil, api.ErrArg)
		if len(l) > 0 {
			checkDecode(t, s, len(l)-1, nil, api.ErrForm)
		}
	}
	long := slices.Repeat([]float64{1, math.Copysign(0, -1), 0.1}, 3000)
	checkDecode(t, bytes(long), 9000, long, api.OK)
}

// P9.2, R2: Decode of what is wrong, the first error ahead of all others.
func TestDecodeWrong(t *testing.T) {
	const most = "\xff\xff\xff\xff\xff\xff\xff\xff\xff\x01"
	for _, c := range []struct {
		s string
		n int
		e api.Errno
	}{
		{"", -1, api.ErrArg}, {"", math.MinInt, api.ErrArg}, {"\x00", -1, api.ErrArg}, {"\x80", -1, api.ErrArg}, {"\xff\xff\x03", -1, api.ErrArg},
		{"", 1, api.ErrCut}, {"", 1 << 62, api.ErrCut}, {"", math.MaxInt, api.ErrCut}, {"\x00", 2, api.ErrCut}, {"\x00", math.MaxInt, api.ErrCut},
		{"\x80\x00", 3, api.ErrCut}, {"\xff\xff\x03", 4, api.ErrCut}, {"\xff\xff\x03", 1 << 31, api.ErrCut},
		{"\x80", 1, api.ErrCut}, {"\x00\x80", 2, api.ErrCut}, {"\xbf\xe0", 1, api.ErrCut}, {"\xbf\xe0", 2, api.ErrCut}, {"\x40\xff\xc0", 2, api.ErrCut}, {"\x40\xff\xc0", 3, api.ErrCut},
		{"\xbf\xe0\x03", 2, api.ErrCut}, {"\xbf\xe0\x03", 3, api.ErrCut}, {"\x80\x80\x80\x80\x80\x80\x80\x80\x80", 9, api.ErrCut},
		{"\x80\x00", 1, api.ErrLong}, {"\x80\x00", 2, api.ErrLong}, {"\x00\x80\x00", 2, api.ErrLong}, {"\x80\x00\x00", 1, api.ErrLong}, {"\x80\x00\x00", 3, api.ErrLong}, {"\x80\x00\x80", 2, api.ErrLong},
		{"\xbf\xe0\x83\x00", 1, api.ErrLong}, {"\xff\xff\x83\x00", 1, api.ErrLong}, {"\x80\x00\xff\xff\x03", 2, api.ErrLong}, {"\xff\xff\xff\xff\xff\xff\xff\xff\xff\x02", 1, api.ErrLong},
		{"\xff\xf1\x03", 1, api.ErrForm}, {"\xff\xe2\x03", 1, api.ErrForm}, {"\xff\xff\x03", 1, api.ErrForm}, {"\xff\xf8\x03", 1, api.ErrForm}, {most, 1, api.ErrForm},
		{"\xff\xe0\x83\x80\x80\x80\x80\x80\x80\x01", 1, api.ErrForm}, {"\xff\xf0\x83\x80\x80\x80\x80\x80\x80\x01", 1, api.ErrForm},
		{"\xff\xff\x03\x80", 2, api.ErrForm}, {"\xff\xff\x03\x80\x00", 2, api.ErrForm}, {"\xff\xff\x03\x00", 1, api.ErrForm}, {"\xff\xf1\x03", 2, api.ErrForm}, {"\xff\xf1\x03", 3, api.ErrForm}, {most + "\x80", 2, api.ErrForm},
		{"\xff\xf0\x03\x80\x01", 2, api.ErrForm}, {"\xff\xe0\x03\x80\x11", 2, api.ErrForm}, {"\xff\xe0\x03\x80\x11\x80", 3, api.ErrForm}, {"\x00\xff\xf1\x03\x80", 3, api.ErrForm}, {"\x40\x3f\x80\x80", 3, api.ErrCut},
		{"\x00", 0, api.ErrForm}, {"\x80", 0, api.ErrForm}, {"\x80\x00", 0, api.ErrForm}, {"\xff\xff\x03", 0, api.ErrForm}, {"\x00\x00", 1, api.ErrForm}, {"\x00\x80", 1, api.ErrForm}, {"\x00\x80\x00", 1, api.ErrForm}, {"\xbf\xe0\x03\x00", 1, api.ErrForm},
	} {
		checkDecode(t, c.s, c.n, nil, c.e)
	}
}

// decode tells by the document's words what Decode is to tell.
func decode(s string, n int) ([]float64, api.Errno) {
	switch {
	case n < 0:
		return nil, api.ErrArg
	case n > len(s):
		return nil, api.ErrCut
	}
	var l []float64
	r := pack.New(s)
	for u := uint64(0); len(l) < n; {
		x := r.Num()
		u ^= swap(x)
		switch {
		case r.Err() != api.OK:
			return nil, r.Err()
		case !may(u):
			return nil, api.ErrForm
		}
		l = append(l, math.Float64frombits(u))
	}
	if r.Left() > 0 {
		return nil, api.ErrForm
	}
	return l, api.OK
}

// P9.2, P9.4: all texts of up to five bytes of some: each is no list, or just one's.
func TestDecodeAll(t *testing.T) {
	texts := []string{""}
	for begin := 0; len(texts[begin]) < 5; begin++ {
		for _, b := range []byte{0, 1, 3, 0x40, 0x80, 0xe0, 0xf0, 0xff} {
			texts = append(texts, texts[begin]+string([]byte{b}))
		}
	}
	good := 0
	for _, s := range texts {
		for n := -1; n < 7; n++ {
			l, e := decode(s, n)
			checkDecode(t, s, n, l, e)
			if e != api.OK {
				continue
			}
			good++
			if reals.Encode(l) != s {
				t.Errorf("%q is %v, of which Encode is %q", s, l, reals.Encode(l))
			}
		}
	}
	if good < 1000 {
		t.Errorf("no more than %d texts are a list's", good)
	}
}

// P9.2: of one number each, bits are told just if they may be.
func TestDecodeOne(t *testing.T) {
	next := patterns()
	for range 20000 {
		u := next()
		s := string(binary.AppendUvarint(nil, swap(u)))
		if may(u) {
			checkDecode(t, s, 1, []float64{math.Float64frombits(u)}, api.OK)
		} else {
			checkDecode(t, s, 1, nil, api.ErrForm)
		}
	}
}

// P9.3: Same.
func TestSame(t *testing.T) {
	none, endless, minus := math.NaN(), math.Inf(1), math.Copysign(0, -1)
	for i, c := range []struct {
		a, b []float64
		want bool
	}{
		{nil, nil, true}, {nil, []float64{}, true}, {[]float64{}, nil, true}, {nil, []float64{0}, false}, {[]float64{0}, nil, false},
		{[]float64{0}, []float64{0}, true}, {[]float64{0}, []float64{minus}, false}, {[]float64{minus}, []float64{0}, false}, {[]float64{minus}, []float64{minus}, true},
		{[]float64{none}, []float64{none}, true}, {[]float64{none}, []float64{-none}, true}, {[]float64{none}, []float64{math.Float64frombits(0xfff0000000000001)}, true},
		{[]float64{none}, []float64{0}, false}, {[]float64{none}, []float64{endless}, false}, {[]float64{endless}, []float64{endless}, true}, {[]float64{endless}, []float64{-endless}, false},
		{[]float64{1, 2}, []float64{1, 2}, true}, {[]float64{1, 2}, []float64{1}, false}, {[]float64{1}, []float64{1, 2}, false}, {[]float64{1, 2}, []float64{2, 1}, false},
		{[]float64{1, 2}, []float64{1, 3}, false}, {[]float64{1, 2}, []float64{3, 2}, false}, {[]float64{1, 2, 3}, []float64{1, 3, 3}, false}, {[]float64{1}, []float64{0x1.0000000000001p0}, false}, {[]float64{1, 1}, []float64{1, 1, 1}, false},
	} {
		if got := reals.Same(c.a, c.b); got != c.want {
			t.Errorf("case %d: Same of %v and %v: %v", i, c.a, c.b, got)
		}
	}
	for l := range lists {
		if !reals.Same(l, slices.Clone(l)) {
			t.Errorf("%v is not itself", l)
		}
		for i := range l {
			other := slices.Clone(l)
			other[i] = math.Float64frombits(bits(l[i]) ^ 1)
			if got, want := reals.Same(l, other), same(l, other); got != want {
				t.Errorf("Same of %v and %v: %v", l, other, got)
			}
		}
	}
}

// P9.4: what is encoded is decoded; no two lists are encoded alike but those that are the same.
func TestOne(t *testing.T) {
	seen := map[string][]float64{}
	for l := range lists {
		s := reals.Encode(l)
		got, e := reals.Decode(s, len(l))
		if e != api.OK || !reals.Same(got, l) {
			t.Fatalf("%v comes back as %v, %d", l, got, e)
		}
		for i, f := range got {
			if f == 0 && math.Signbit(f) != math.Signbit(l[i]) {
				t.Fatalf("%v comes back with nought's minus changed: %v", l, got)
			}
		}
		if other, is := seen[s]; is && !same(other, l) {
			t.Fatalf("%v and %v are both %q", other, l, s)
		}
		seen[s] = l
	}
}

// R5: what is handed in stays as it was, and what is answered is not changed by what comes then.
func TestApart(t *testing.T) {
	all := []float64{3, 1, 2, 2, math.Copysign(0, -1), 7}
	kept := slices.Clone(all)
	part := all[1:5]
	s := reals.Encode(part)
	got, _ := reals.Decode(s, 4)
	reals.Same(part, got)
	if !same(all, kept) || !same(got, part) {
		t.Errorf("what was handed in is %v by now, and is told as %v", all, got)
	}
	clear(all)
	reals.Encode(all)
	reals.Decode(reals.Encode([]float64{9, 9, 9, 9}), 4)
	if want := kept[1:5]; !same(got, want) {
		t.Errorf("what was answered is %v by now", got)
	}
	clear(got)
	if again, _ := reals.Decode(s, 4); !same(again, kept[1:5]) {
		t.Errorf("what is answered now is %v", again)
	}
}

// R6: what is told hangs on no earlier call.
func TestAgain(t *testing.T) {
	for range 3 {
		for i, c := range columns() {
			if s := reals.Encode(c.l); s != c.s {
				t.Errorf("case %d: %q, not %q", i, s, c.s)
			}
			checkDecode(t, c.s, len(c.l), c.l, api.OK)
			checkDecode(t, "\xbf\xe0\x03\x80", 2, nil, api.ErrCut)
			checkDecode(t, "\xff\xff\x03", 1, nil, api.ErrForm)
		}
	}
}
