package pack_test

import (
	"math"
	"strings"
	"testing"

	"bonsai/api"
	"bonsai/pack"
)

// numbers are those at each end of what so and so many bits hold, and others here and there.
func numbers() []uint64 {
	l := []uint64{300, 16384, 1<<64 - 1, 0x0102030405060708, 0x8040201008040201}
	for i := range 64 {
		u := uint64(1) << i
		l = append(l, u-1, u, u+1, ^u)
	}
	u := uint64(0x9e3779b97f4a7c15)
	for i := range 3000 {
		u = u*6364136223846793005 + 1442695040888963407
		l = append(l, (u^u>>29)>>(i%64))
	}
	return l
}

// words tells by the document's words what n's bytes are.
func words(n uint64) string {
	var groups []byte
	for i := 0; i < 64; i += 7 {
		groups = append(groups, byte(n>>i)&127|128)
	}
	for len(groups) > 1 && groups[len(groups)-1] == 128 {
		groups = groups[:len(groups)-1]
	}
	groups[len(groups)-1] &= 127
	return string(groups)
}

// P3.1: Put.
func TestPut(t *testing.T) {
	for i, c := range []struct {
		n    uint64
		want string
	}{
		{0, "\x00"}, {1, "\x01"}, {127, "\x7f"}, {128, "\x80\x01"}, {255, "\xff\x01"}, {256, "\x80\x02"}, {300, "\xac\x02"},
		{16383, "\xff\x7f"}, {16384, "\x80\x80\x01"}, {1<<63 - 1, "\xff\xff\xff\xff\xff\xff\xff\xff\x7f"},
		{1 << 63, "\x80\x80\x80\x80\x80\x80\x80\x80\x80\x01"}, {1<<64 - 1, "\xff\xff\xff\xff\xff\xff\xff\xff\xff\x01"},
	} {
		if s := pack.Put(c.n); s != c.want {
			t.Errorf("case %d: Put of %d: %q, not %q", i, c.n, s, c.want)
		}
	}
	for _, n := range numbers() {
		if s := pack.Put(n); s != words(n) {
			t.Errorf("Put of %d: %q, not %q", n, s, words(n))
		}
	}
}

// P3.1: Fixed.
func TestFixed(t *testing.T) {
	for u, want := range map[uint64]string{
		0: "\x00\x00\x00\x00\x00\x00\x00\x00", 1: "\x01\x00\x00\x00\x00\x00\x00\x00", 0x0102030405060708: "\x08\x07\x06\x05\x04\x03\x02\x01",
		1 << 63: "\x00\x00\x00\x00\x00\x00\x00\x80", 1<<64 - 1: "\xff\xff\xff\xff\xff\xff\xff\xff",
	} {
		if s := pack.Fixed(u); s != want {
			t.Errorf("Fixed of %#x: %q, not %q", u, s, want)
		}
	}
}

// P3.1: Zig and Zag.
func TestZig(t *testing.T) {
	for n, want := range map[int]uint64{
		0: 0, 1: 2, 2: 4, -1: 1, -2: 3, -3: 5, 300: 600, -300: 599,
		math.MaxInt: 1<<64 - 2, math.MinInt: 1<<64 - 1, math.MinInt + 1: 1<<64 - 3, 1 << 62: 1 << 63, -1 << 62: 1<<63 - 1,
	} {
		if u := pack.Zig(n); u != want {
			t.Errorf("Zig of %d: %d, not %d", n, u, want)
		}
		if got := pack.Zag(want); got != n {
			t.Errorf("Zag of %d: %d, not %d", want, got, n)
		}
	}
	for _, u := range numbers() {
		if n := pack.Zag(u); pack.Zig(n) != u || pack.Zag(pack.Zig(int(u))) != int(u) {
			t.Errorf("Zag of %d: %d, of which Zig is %d", u, n, pack.Zig(n))
		}
	}
}

// P3.2: New, Left and Err, while nothing is wrong.
func TestNew(t *testing.T) {
	for _, s := range []string{"", "a", "abc", "\xff\xff", strings.Repeat("\x80", 1000)} {
		if r := pack.New(s); r == nil || r.Left() != len(s) || r.Err() != api.OK {
			t.Errorf("%q: not at its begin", s)
		}
	}
	r := pack.New("\x07\x80\x01\x0301234567xyz")
	left := func(want int) {
		t.Helper()
		if r.Left() != want || r.Err() != api.OK {
			t.Errorf("%d are left, not %d; error %d", r.Left(), want, r.Err())
		}
	}
	left(15)
	if n := r.Num(); n != 7 {
		t.Errorf("Num: %d", n)
	}
	left(14)
	if n := r.Num(); n != 128 {
		t.Errorf("Num: %d", n)
	}
	left(12)
	if n := r.Int(); n != -2 {
		t.Errorf("Int: %d", n)
	}
	left(11)
	if u := r.Fix(); u != 0x3736353433323130 {
		t.Errorf("Fix: %#x", u)
	}
	left(3)
	if s := r.Take(2); s != "xy" {
		t.Errorf("Take: %q", s)
	}
	left(1)
	if s := r.Take(1); s != "z" {
		t.Errorf("Take: %q", s)
	}
	left(0)
}

// R5, R6: a Reader knows nothing of another one of the same text.
func TestApart(t *testing.T) {
	const s = "\x01\x80"
	a, b := pack.New(s), pack.New(s)
	a.Num()
	a.Num()
	if a.Err() != api.ErrCut || b.Err() != api.OK || b.Left() != 2 || b.Num() != 1 || pack.New(s).Num() != 1 {
		t.Error("one Reader's reading is another one's")
	}
}

// number is what Num is to tell of bytes: the number, how many bytes it takes, and the error.
type number struct {
	n   uint64
	len int
	err api.Errno
}

// numOf tells by the document's words what number s begins with: its bytes are looked at one by one.
func numOf(s string) number {
	sum := uint64(0)
	for i := 0; i < 10; i++ {
		if i == len(s) {
			return number{err: api.ErrCut}
		}
		if i == 9 && s[i] > 1 {
			return number{err: api.ErrLong}
		}
		sum += uint64(s[i]&127) << (7 * i)
		if s[i] >= 128 {
			continue
		}
		if s[i] == 0 && i != 0 {
			return number{err: api.ErrLong}
		}
		return number{sum, i + 1, api.OK}
	}
	panic("the tenth byte is above 1, or a last one")
}

// P3.3: Num, by examples.
func TestNum(t *testing.T) {
	nine := strings.Repeat("\x80", 9)
	full := strings.Repeat("\xff", 9)
	for i, c := range []struct {
		s    string
		want number
	}{
		{"\x00", number{0, 1, api.OK}}, {"\x00\x00", number{0, 1, api.OK}}, {"\x7f\xff", number{127, 1, api.OK}},
		{"\x80\x01", number{128, 2, api.OK}}, {"\xac\x02\x05", number{300, 2, api.OK}},
		{full[1:] + "\x7f", number{1<<63 - 1, 9, api.OK}},
		{nine + "\x01", number{1 << 63, 10, api.OK}}, {full + "\x01", number{1<<64 - 1, 10, api.OK}}, {full + "\x01\x80", number{1<<64 - 1, 10, api.OK}},
		{"", number{err: api.ErrCut}}, {"\x80", number{err: api.ErrCut}}, {"\xff\xff", number{err: api.ErrCut}},
		{nine, number{err: api.ErrCut}}, {full, number{err: api.ErrCut}},
		{"\x80\x00", number{err: api.ErrLong}}, {"\xff\x00", number{err: api.ErrLong}}, {"\xff\x80\x00\x01", number{err: api.ErrLong}},
		{nine[1:] + "\x00", number{err: api.ErrLong}}, {nine + "\x00", number{err: api.ErrLong}}, {full + "\x00", number{err: api.ErrLong}},
		{nine + "\x02", number{err: api.ErrLong}}, {full + "\x7f", number{err: api.ErrLong}},
		{nine + "\x80", number{err: api.ErrLong}}, {full + "\xff", number{err: api.ErrLong}}, {nine + "\x81\x00", number{err: api.ErrLong}}, {nine + "\x81\x01", number{err: api.ErrLong}},
	} {
		if want := numOf(c.s); want != c.want {
			t.Fatalf("case %d: the test tells %v, too", i, want)
		}
		checkNum(t, c.s, c.want)
	}
}

// checkNum holds what Num does at the begin of s against want.
func checkNum(t *testing.T, s string, want number) {
	t.Helper()
	r := pack.New(s)
	n := r.Num()
	if got := (number{n, len(s) - r.Left(), r.Err()}); got != want {
		t.Errorf("Num of %q: %v, not %v", s, got, want)
	}
}

// P3.3: Num, of all short texts of bytes at an edge, alone and behind those that go on.
func TestNumAll(t *testing.T) {
	const edges = "\x00\x01\x02\x7f\x80\x81\xfe\xff"
	short := []string{""}
	for i := 0; len(short[i]) < 4; i++ {
		for k := range len(edges) {
			short = append(short, short[i]+edges[k:k+1])
		}
	}
	for _, s := range short {
		for _, ahead := range []int{0, 5, 6, 7, 8, 9, 10} {
			for _, b := range []string{"\x80", "\xff"} {
				all := strings.Repeat(b, ahead) + s
				checkNum(t, all, numOf(all))
			}
		}
	}
}

// P3.3: Int.
func TestInt(t *testing.T) {
	for i, c := range []struct {
		s    string
		n    int
		left int
		err  api.Errno
	}{
		{"\x00", 0, 0, api.OK}, {"\x01", -1, 0, api.OK}, {"\x02\x09", 1, 1, api.OK}, {"\xac\x02", 150, 0, api.OK}, {"\xab\x02", -150, 0, api.OK},
		{"\xfe\xff\xff\xff\xff\xff\xff\xff\xff\x01", math.MaxInt, 0, api.OK}, {"\xff\xff\xff\xff\xff\xff\xff\xff\xff\x01", math.MinInt, 0, api.OK},
		{"", 0, 0, api.ErrCut}, {"\x83", 0, 1, api.ErrCut}, {"\x83\x00", 0, 2, api.ErrLong},
		{"\xff\xff\xff\xff\xff\xff\xff\xff\xff\x02", 0, 10, api.ErrLong},
	} {
		r := pack.New(c.s)
		if n := r.Int(); n != c.n || r.Left() != c.left || r.Err() != c.err {
			t.Errorf("case %d: Int of %q: %d, %d left, error %d", i, c.s, n, r.Left(), r.Err())
		}
	}
}

// P3.3: Fix.
func TestFix(t *testing.T) {
	for _, u := range numbers() {
		r := pack.New(pack.Fixed(u) + "z")
		if got := r.Fix(); got != u || r.Left() != 1 || r.Err() != api.OK {
			t.Errorf("Fix of Fixed of %#x: %#x, %d left, error %d", u, got, r.Left(), r.Err())
		}
	}
	if u := pack.New("\x08\x07\x06\x05\x04\x03\x02\x81").Fix(); u != 0x8102030405060708 {
		t.Errorf("Fix: %#x", u)
	}
	for n := range 8 {
		r := pack.New("\x01234567"[:n])
		if u := r.Fix(); u != 0 || r.Left() != n || r.Err() != api.ErrCut {
			t.Errorf("Fix of %d bytes: %#x, %d left, error %d", n, u, r.Left(), r.Err())
		}
	}
}

// P3.3: Take.
func TestTake(t *testing.T) {
	for i, c := range []struct {
		s    string
		n    int
		want string
		err  api.Errno
	}{
		{"", 0, "", api.OK}, {"abc", 0, "", api.OK}, {"abc", 1, "a", api.OK}, {"abc", 3, "abc", api.OK}, {"\xff\x00\x80", 2, "\xff\x00", api.OK},
		{"", 1, "", api.ErrCut}, {"abc", 4, "", api.ErrCut}, {"abc", math.MaxInt, "", api.ErrCut},
		{"", -1, "", api.ErrCut}, {"abc", -1, "", api.ErrCut}, {"abc", math.MinInt, "", api.ErrCut},
	} {
		r := pack.New(c.s)
		if s := r.Take(c.n); s != c.want || r.Left() != len(c.s)-len(c.want) || r.Err() != c.err {
			t.Errorf("case %d: Take of %d of %q: %q, %d left, error %d", i, c.n, c.s, s, r.Left(), r.Err())
		}
	}
}

// P3.2: behind an error nothing is read, whatever is asked for, and the error stays.
func TestError(t *testing.T) {
	const rest = "\x01\x02345678901234567890"
	for i, c := range []struct {
		s    string
		fail func(r *pack.Reader)
		err  api.Errno
	}{
		{"\x80\x00" + rest, func(r *pack.Reader) { r.Num() }, api.ErrLong},
		{"\x80\x00" + rest, func(r *pack.Reader) { r.Int() }, api.ErrLong},
		{"\x80\x80", func(r *pack.Reader) { r.Num() }, api.ErrCut},
		{"\x80\x80", func(r *pack.Reader) { r.Int() }, api.ErrCut},
		{"1234567", func(r *pack.Reader) { r.Fix() }, api.ErrCut},
		{rest, func(r *pack.Reader) { r.Take(-1) }, api.ErrCut},
		{rest, func(r *pack.Reader) { r.Take(len(rest) + 1) }, api.ErrCut},
	} {
		r := pack.New("ab" + c.s)
		if r.Take(2) != "ab" {
			t.Fatalf("case %d: nothing is read ahead of the error", i)
		}
		c.fail(r)
		for k, nothing := range []func() bool{
			func() bool { return r.Err() == c.err },
			func() bool { return r.Num() == 0 },
			func() bool { return r.Int() == 0 },
			func() bool { return r.Fix() == 0 },
			func() bool { return r.Take(0) == "" },
			func() bool { return r.Take(1) == "" },
			func() bool { return r.Take(-1) == "" },
			func() bool { return r.Take(math.MaxInt) == "" },
			func() bool { return r.Done() == c.err },
		} {
			if !nothing() || r.Left() != len(c.s) || r.Err() != c.err {
				t.Errorf("case %d, %d: %d are left, not %d; error %d, not %d", i, k, r.Left(), len(c.s), r.Err(), c.err)
			}
		}
	}
}

// P3.4: Done, and that bytes that are left are no error of the Reader's own.
func TestDone(t *testing.T) {
	if r := pack.New(""); r.Done() != api.OK || r.Done() != api.OK || r.Err() != api.OK {
		t.Error("nothing to read")
	}
	r := pack.New("\x05\x06")
	if r.Done() != api.ErrForm || r.Done() != api.ErrForm || r.Err() != api.OK || r.Left() != 2 {
		t.Errorf("two bytes left: %d, error %d", r.Done(), r.Err())
	}
	if r.Num() != 5 || r.Done() != api.ErrForm || r.Err() != api.OK {
		t.Errorf("a byte left: %d, error %d", r.Done(), r.Err())
	}
	if r.Num() != 6 || r.Done() != api.OK || r.Err() != api.OK {
		t.Errorf("no byte left: %d, error %d", r.Done(), r.Err())
	}
	if r.Num() != 0 || r.Done() != api.ErrCut || r.Err() != api.ErrCut {
		t.Errorf("behind the end: %d, error %d", r.Done(), r.Err())
	}
	r = pack.New("\x80\x00")
	if r.Num(); r.Done() != api.ErrLong || r.Left() != 2 {
		t.Errorf("the error goes ahead of bytes that are left: %d", r.Done())
	}
}

// R1, P3.4: a nil Reader.
func TestNone(t *testing.T) {
	var r *pack.Reader
	for range 2 {
		if r.Num() != 0 || r.Int() != 0 || r.Fix() != 0 || r.Take(0) != "" || r.Take(1) != "" || r.Take(-1) != "" || r.Left() != 0 {
			t.Error("something is read of a nil Reader")
		}
		if r.Err() != api.ErrCut || r.Done() != api.ErrCut {
			t.Errorf("errors %d, %d", r.Err(), r.Done())
		}
	}
}

// P3.5: what is put is read, one behind the other, whatever follows.
func TestRound(t *testing.T) {
	l := numbers()
	var s strings.Builder
	for _, n := range l {
		s.WriteString(pack.Put(n) + pack.Put(pack.Zig(int(n))) + pack.Fixed(n) + pack.Put(n)[:1])
	}
	for _, tail := range []string{"", "\x00", "\x80", "\xff\xff", "text"} {
		r := pack.New(s.String() + tail)
		for _, n := range l {
			if r.Num() != n || r.Int() != int(n) || r.Fix() != n || r.Take(1) != pack.Put(n)[:1] || r.Err() != api.OK {
				t.Fatalf("%d does not come back; error %d", n, r.Err())
			}
		}
		if r.Left() != len(tail) || (r.Done() == api.OK) != (tail == "") {
			t.Errorf("%d are left, not %d", r.Left(), len(tail))
		}
	}
}
