package oplog_test

import (
	"encoding/binary"
	"fmt"
	"math"
	mathbits "math/bits"
	"slices"
	"strings"
	"testing"

	"bonsai/api"
	"bonsai/delta"
	"bonsai/dict"
	"bonsai/flags"
	"bonsai/moves"
	"bonsai/oplog"
	"bonsai/pack"
	"bonsai/reals"
	"bonsai/runs"
)

const (
	top      = 1<<62 - 1
	noNumber = 0x7ff8000000000000
)

// far are numbers that are too great for an int, or for what stands behind them, as bytes.
const (
	most63 = "\xff\xff\xff\xff\xff\xff\xff\xff\x7f"
	over63 = "\x80\x80\x80\x80\x80\x80\x80\x80\x80\x01"
	most64 = "\xff\xff\xff\xff\xff\xff\xff\xff\xff\x01"
	over64 = "\xff\xff\xff\xff\xff\xff\xff\xff\xff\x02"
)

// minus is nought with a minus, none is no number.
func minus() float64 { return math.Copysign(0, -1) }
func none() float64  { return math.NaN() }

// numbers goes without an end by numbers that look like chance, and are the same each time.
func numbers() func() uint64 {
	u := uint64(0x9e3779b97f4a7c15)
	return func() uint64 {
		u = u*6364136223846793005 + 1442695040888963407
		return u ^ u>>29
	}
}

// texts tells all texts of up to so many bytes of some.
func texts(most int, some string) []string {
	all := []string{""}
	for begin := 0; len(all[begin]) < most; begin++ {
		for i := range len(some) {
			all = append(all, all[begin]+some[i:i+1])
		}
	}
	return all
}

// near tells s with a byte more, less or otherwise at each place, and each begin of it.
func near(s string, some string) []string {
	var all []string
	for i := range len(s) + 1 {
		all = append(all, s[:i])
		for k := range len(some) {
			b := some[k : k+1]
			all = append(all, s[:i]+b+s[i:])
			if i < len(s) {
				all = append(all, s[:i]+b+s[i+1:], s[:i]+s[i+1:])
			}
		}
	}
	return all
}

// long tells by the document's words s behind its length.
func long(s string) string {
	return string(binary.AppendUvarint(nil, uint64(len(s)))) + s
}

// steps tells by the document's words the bytes of how far each number is from the one ahead.
func steps(l []int) string {
	var b []byte
	ahead := 0
	for _, n := range l {
		b = binary.AppendVarint(b, int64(n-ahead))
		ahead = n
	}
	return string(b)
}

// times tells by the document's words the bytes of l as runs.
func times(l []int) string {
	var b []byte
	for i := 0; i < len(l); {
		count := 1
		for i+count < len(l) && l[i+count] == l[i] {
			count++
		}
		b = binary.AppendUvarint(b, uint64(l[i]))
		b = binary.AppendUvarint(b, uint64(count))
		i += count
	}
	return string(b)
}

// names tells by the document's words the bytes of texts, each once, and of which one stands where.
func names(l []string) string {
	var words []string
	var at []int
	for _, s := range l {
		place := slices.Index(words, s)
		if place < 0 {
			place = len(words)
			words = append(words, s)
		}
		at = append(at, place)
	}
	b := string(binary.AppendUvarint(nil, uint64(len(words))))
	for _, s := range words {
		b += long(s)
	}
	return b + times(at)
}

// bits tells by the document's words the bits of f.
func bits(f float64) uint64 {
	if f != f {
		return noNumber
	}
	return math.Float64bits(f)
}

// ranks tells by the document's words the bytes of numbers.
func ranks(l []float64) string {
	var lengths, rest []byte
	var ahead uint64
	count, is := 0, false
	for _, f := range l {
		if (bits(f) != 0) != is {
			lengths = binary.AppendUvarint(lengths, uint64(count))
			count, is = 0, !is
		}
		count++
		if bits(f) != 0 {
			rest = binary.AppendUvarint(rest, mathbits.ReverseBytes64(bits(f)^ahead))
			ahead = bits(f)
		}
	}
	if len(l) > 0 {
		lengths = binary.AppendUvarint(lengths, uint64(count))
	}
	return long(string(lengths)) + string(rest)
}

// bodies tells by the document's words the five bodies of l.
func bodies(l []api.Move) [5]string {
	var counters, replicas, parents, children []int
	var words []string
	var points []float64
	for _, m := range l {
		counters, replicas = append(counters, m.Time.Counter), append(replicas, m.Time.Replica)
		parents, children = append(parents, m.Parent), append(children, m.Child)
		words, points = append(words, m.Name), append(points, m.Rank)
	}
	return [5]string{string(binary.AppendUvarint(nil, uint64(len(l)))), long(steps(counters)) + times(replicas), long(steps(parents)) + steps(children), names(words), ranks(points)}
}

// chunks tells five bodies as chunks of the kinds 4 to 8.
func chunks(bodies [5]string) []api.Chunk {
	var l []api.Chunk
	for i, body := range bodies {
		l = append(l, api.Chunk{Kind: 4 + i, Body: body})
	}
	return l
}

// show tells chunks so that they can be read, where there are not too many bytes.
func show(l []api.Chunk) string {
	var b strings.Builder
	for _, c := range l {
		fmt.Fprintf(&b, "%d: %.200q; ", c.Kind, c.Body)
	}
	return b.String()
}

// cut tells by the document's words what Cut is to tell.
func cut(s string) (string, string, api.Errno) {
	r := pack.New(s)
	size := r.Num()
	if r.Err() != api.OK {
		return "", "", r.Err()
	}
	if size > uint64(r.Left()) {
		return "", "", api.ErrCut
	}
	behind := s[len(s)-r.Left():]
	return behind[:size], behind[size:], api.OK
}

// takeRanks tells by the document's words what TakeRanks is to tell.
func takeRanks(s string, n int) ([]float64, api.Errno) {
	part, rest, e := cut(s)
	if e != api.OK {
		return nil, e
	}
	is, e := flags.Decode(part, n)
	if e != api.OK {
		return nil, e
	}
	some, e := reals.Decode(rest, flags.Count(is))
	if e != api.OK {
		return nil, e
	}
	var l []float64
	for _, other := range is {
		f := 0.0
		if other {
			f, some = some[0], some[1:]
			if bits(f) == 0 {
				return nil, api.ErrForm
			}
		}
		l = append(l, f)
	}
	return l, api.OK
}

// decode tells by the document's words what Decode is to tell.
func decode(l []api.Chunk) ([]api.Move, api.Errno) {
	if len(l) != 5 {
		return nil, api.ErrForm
	}
	for i, c := range l {
		if c.Kind != 4+i {
			return nil, api.ErrForm
		}
	}
	r := pack.New(l[0].Body)
	count := r.Num()
	switch {
	case r.Err() != api.OK:
		return nil, r.Err()
	case r.Left() > 0:
		return nil, api.ErrForm
	case count > 2000:
		return nil, api.ErrBig
	}
	n := int(count)
	var e [8]api.Errno
	var first, second string
	var counters, parents, children []int
	var replicas []uint64
	var words []string
	var points []float64
	if first, second, e[0] = cut(l[1].Body); e[0] == api.OK {
		counters, e[1] = delta.Decode(first, n)
		replicas, e[2] = runs.Decode(second, n)
	}
	if first, second, e[3] = cut(l[2].Body); e[3] == api.OK {
		parents, e[4] = delta.Decode(first, n)
		children, e[5] = delta.Decode(second, n)
	}
	words, e[6] = dict.Decode(l[3].Body, n, 64)
	points, e[7] = takeRanks(l[4].Body, n)
	for _, one := range e {
		if one != api.OK {
			return nil, one
		}
	}
	var all []api.Move
	for i := range n {
		if replicas[i] > 255 {
			return nil, api.ErrForm
		}
		m := api.Move{Time: api.Time{Counter: counters[i], Replica: int(replicas[i])}, Parent: parents[i], Child: children[i], Name: words[i], Rank: points[i]}
		if !moves.One(m) {
			return nil, api.ErrForm
		}
		all = append(all, m)
	}
	if !moves.May(all) {
		return nil, api.ErrOrder
	}
	return all, api.OK
}

// P19.1: Part and Cut, of what Part told, whatever follows.
func TestPart(t *testing.T) {
	for _, c := range []struct{ s, want string }{
		{"", "\x00"}, {"a", "\x01a"}, {"\x00", "\x01\x00"}, {"ab", "\x02ab"}, {"\xff\xfe\x80", "\x03\xff\xfe\x80"}, {strings.Repeat("x", 127), "\x7f" + strings.Repeat("x", 127)}, {strings.Repeat("x", 128), "\x80\x01" + strings.Repeat("x", 128)}, {strings.Repeat("\x80", 300), "\xac\x02" + strings.Repeat("\x80", 300)}, {strings.Repeat("y", 16384), "\x80\x80\x01" + strings.Repeat("y", 16384)},
	} {
		s := oplog.Part(c.s)
		if s != c.want {
			t.Errorf("Part of %.20q: %.20q", c.s, s)
		}
		for _, rest := range []string{"", "\x00", "\xff", "\x80\x80", "more", c.want} {
			if part, behind, e := oplog.Cut(s + rest); part != c.s || behind != rest || e != api.OK {
				t.Errorf("Cut of %.20q and %.20q: %.20q, %.20q, %d", s, rest, part, behind, e)
			}
		}
	}
}

// P19.1, R3: Cut of what is wrong.
func TestCutWrong(t *testing.T) {
	for _, c := range []struct {
		s string
		e api.Errno
	}{
		{"", api.ErrCut}, {"\x80", api.ErrCut}, {"\xff\xff", api.ErrCut}, {"\x80\x00", api.ErrLong}, {"\x81\x00a", api.ErrLong}, {"\x81\x80\x00ab", api.ErrLong}, {over64, api.ErrLong}, {over64 + "abc", api.ErrLong},
		{"\x01", api.ErrCut}, {"\x02a", api.ErrCut}, {"\x7f" + strings.Repeat("x", 126), api.ErrCut}, {"\x80\x01" + strings.Repeat("x", 127), api.ErrCut},
		{"\x80\x80\x80\x80\x08abc", api.ErrCut}, {"\x80\x80\x80\x80\x10abc", api.ErrCut}, {"\x81\x80\x80\x80\x10abc", api.ErrCut}, {most63 + "abc", api.ErrCut}, {over63 + "abc", api.ErrCut}, {over63, api.ErrCut}, {most64 + "abc", api.ErrCut}, {"\x81" + over63[1:] + "abc", api.ErrCut},
	} {
		if part, rest, e := oplog.Cut(c.s); part != "" || rest != "" || e != c.e {
			t.Errorf("Cut of %.20q: %q, %q, %d, not %d", c.s, part, rest, e, c.e)
		}
	}
}

// P19.1: Cut of all short texts of bytes at an edge: each is a Part and what stands behind it, or none.
func TestCutAll(t *testing.T) {
	for _, s := range texts(5, "\x00\x01\x02\x03\x7f\x80\xff") {
		part, rest, e := oplog.Cut(s)
		wantPart, wantRest, wantE := cut(s)
		if part != wantPart || rest != wantRest || e != wantE {
			t.Fatalf("Cut of %q: %q, %q, %d, not %q, %q, %d", s, part, rest, e, wantPart, wantRest, wantE)
		}
		if e == api.OK && oplog.Part(part)+rest != s {
			t.Fatalf("%q is %q and %q", s, part, rest)
		}
	}
}

// points are lists of numbers, and their bytes by hand.
func points() map[string][]float64 {
	return map[string][]float64{
		"\x00":     nil,
		"\x01\x01": {0}, "\x01\x02": {0, 0}, "\x01\x7f": make([]float64, 127), "\x02\x80\x01": make([]float64, 128),
		"\x02\x00\x01\xbf\xe0\x03": {1}, "\x03\x00\x01\x01\xbf\xe0\x03": {1, 0}, "\x02\x01\x01\xbf\xe0\x03": {0, 1}, "\x02\x00\x02\xbf\xe0\x03\x00": {1, 1}, "\x04\x00\x01\x01\x01\xbf\xe0\x03\x00": {1, 0, 1}, "\x03\x01\x01\x01\xbf\xe1\x03": {0, -1, 0},
		"\x02\x00\x01\x80\x01": {minus()}, "\x02\x01\x01\x80\x01": {0, minus()}, "\x02\x00\x02\x80\x01\x00": {minus(), minus()}, "\x04\x00\x01\x02\x01\x80\x01\x00": {minus(), 0, 0, minus()},
		"\x02\x00\x01\xff\xf0\x03": {none()}, "\x02\x00\x02\xff\xf0\x03\x00": {none(), none()}, "\x04\x00\x01\x01\x01\x80\x01\xff\xf1\x03": {minus(), 0, none()}, "\x02\x00\x02\xff\xe0\x03\x80\x01": {math.Inf(1), math.Inf(-1)},
		"\x03\x02\x01\x01\x80\x80\x80\x80\x80\x80\x80\x80\x01": {0, 0, 0x1p-1074, 0},
	}
}

// lists goes by all lists of up to five of some numbers.
func lists(yield func([]float64) bool) {
	all := [][]float64{nil}
	for begin := 0; begin < len(all); begin++ {
		if !yield(all[begin]) {
			return
		}
		if len(all[begin]) == 5 {
			continue
		}
		for _, f := range []float64{0, minus(), 1, none(), -0x1p-1074} {
			all = append(all, append(slices.Clone(all[begin]), f))
		}
	}
}

// checkRanks holds what TakeRanks tells against l and e.
func checkRanks(t *testing.T, s string, n int, l []float64, e api.Errno) {
	t.Helper()
	if got, err := oplog.TakeRanks(s, n); !reals.Same(got, l) || err != e {
		t.Errorf("TakeRanks of %.60q, %d: %.60v, %d, not %.60v, %d", s, n, got, err, l, e)
	}
}

// P19.2: PutRanks, and TakeRanks of that, by hand and of all short lists.
func TestRanks(t *testing.T) {
	for s, l := range points() {
		if got := oplog.PutRanks(l); got != s {
			t.Errorf("PutRanks of %v: %q, not %q", l, got, s)
		}
		checkRanks(t, s, len(l), l, api.OK)
	}
	for l := range lists {
		s := ranks(l)
		if got := oplog.PutRanks(l); got != s {
			t.Fatalf("PutRanks of %v: %q, not %q", l, got, s)
		}
		checkRanks(t, s, len(l), l, api.OK)
		checkRanks(t, s, len(l)+1, nil, api.ErrForm)
		checkRanks(t, s, -1, nil, api.ErrArg)
		checkRanks(t, s+"\x00", len(l), nil, api.ErrForm)
		if len(l) > 0 {
			checkRanks(t, s, len(l)-1, nil, api.ErrForm)
			checkRanks(t, s[:len(s)-1], len(l), nil, api.ErrCut)
		}
	}
}

// P19.2: all that is no number is one; also of numbers of which there are more than TakeRanks may tell.
func TestRanksLong(t *testing.T) {
	other := []float64{math.Float64frombits(0xfff8000000000123), math.Float64frombits(0x7ff0000000000001)}
	if s := oplog.PutRanks(other); s != "\x02\x00\x02\xff\xf0\x03\x00" {
		t.Errorf("PutRanks of no numbers: %q", s)
	}
	next := numbers()
	var l []float64
	for range 5000 {
		l = append(l, []float64{0, 0, 1.5, minus(), math.Float64frombits(next())}[next()%5])
	}
	for _, n := range []int{2000, 4096, 4097, 5000} {
		s := oplog.PutRanks(l[:n])
		if s != ranks(l[:n]) {
			t.Errorf("PutRanks of %d numbers", n)
		}
		if n <= 4096 {
			checkRanks(t, s, n, l[:n], api.OK)
		} else {
			checkRanks(t, s, n, nil, api.ErrBig)
		}
	}
	checkRanks(t, "\x02\x80\x20", 4096, make([]float64, 4096), api.OK)
	checkRanks(t, "\x02\x81\x20", 4097, nil, api.ErrBig)
}

// P19.2, R2: TakeRanks of what is wrong, the first error ahead of all others.
func TestRanksWrong(t *testing.T) {
	for _, c := range []struct {
		s string
		n int
		e api.Errno
	}{
		// Cut's error, whatever n is.
		{"", 0, api.ErrCut}, {"", -1, api.ErrCut}, {"", 5000, api.ErrCut}, {"\x80", -1, api.ErrCut}, {"\x80\x00", -1, api.ErrLong}, {"\x80\x00", 5000, api.ErrLong}, {"\x02\x01", 1, api.ErrCut}, {"\x02\x01", -1, api.ErrCut}, {most64, 1, api.ErrCut}, {over64, 1, api.ErrLong}, {over63 + "\x01", 1, api.ErrCut},
		// That of the flags.
		{"\x00", -1, api.ErrArg}, {"\x01\x80\xff", -1, api.ErrArg}, {"\x00", math.MinInt, api.ErrArg}, {"\x00", 4097, api.ErrBig}, {"\x01\x80\xff", 4097, api.ErrBig}, {"\x00", math.MaxInt, api.ErrBig}, {"\x01\x80\x80\x00", 1, api.ErrCut}, {"\x02\x80\x00\x80", 1, api.ErrLong}, {"\x00", 1, api.ErrForm}, {"\x01\x00", 0, api.ErrForm}, {"\x01\x01", 0, api.ErrForm}, {"\x01\x02\x80", 1, api.ErrForm}, {"\x03\x01\x00\x01", 2, api.ErrForm}, {"\x02\x01\x01", 1, api.ErrForm}, {"\x02\x01\x00", 1, api.ErrForm}, {"\x02\x00\x00", 1, api.ErrForm}, {"\x02\x00\x00\x80", 1, api.ErrForm},
		// That of the numbers: there are as many as flags are true.
		{"\x00\x00", 0, api.ErrForm}, {"\x01\x01\x00", 1, api.ErrForm}, {"\x01\x01\x80", 1, api.ErrForm}, {"\x02\x00\x01", 1, api.ErrCut}, {"\x02\x00\x01\x80", 1, api.ErrCut}, {"\x02\x00\x01\x80\x00", 1, api.ErrLong}, {"\x02\x00\x01\xbf\xe0\x03\x00", 1, api.ErrForm}, {"\x02\x00\x02\xbf\xe0\x03", 2, api.ErrCut}, {"\x02\x00\x02\x40", 2, api.ErrCut}, {"\x02\x00\x01\xff\xf1\x03", 1, api.ErrForm}, {"\x02\x00\x02\x01\xff\x80\x00", 2, api.ErrLong}, {"\x02\x00\x02\xff\xf1\x03\x80", 2, api.ErrForm}, {"\x03\x00\x01\x01\xbf\xe0\x03\x00", 2, api.ErrForm},
		// Nought without a minus among these, and behind all other errors.
		{"\x02\x00\x01\x00", 1, api.ErrForm}, {"\x02\x00\x02\xbf\xe0\x03\xbf\xe0\x03", 2, api.ErrForm}, {"\x02\x00\x02\x00\xbf\xe0\x03", 2, api.ErrForm}, {"\x02\x00\x02\x80\x01\x80\x01", 2, api.ErrForm}, {"\x02\x01\x01\x00", 2, api.ErrForm}, {"\x03\x00\x01\x01\x00", 2, api.ErrForm}, {"\x02\x00\x02\x00\x80", 2, api.ErrCut}, {"\x02\x00\x02\x00\x80\x00", 2, api.ErrLong}, {"\x02\x00\x02\x00", 2, api.ErrCut},
	} {
		checkRanks(t, c.s, c.n, nil, c.e)
	}
}

// P19.2, P19.5: TakeRanks of all short texts, and of ones that are nearly a list's: each is none, or just one's.
func TestRanksAll(t *testing.T) {
	all := texts(6, "\x00\x01\x02\x40\x80\xff")
	for s := range points() {
		all = append(all, near(s, "\x00\x01\x02\x03\x7f\x80\xc0\xff")...)
	}
	good := 0
	for _, s := range all {
		for _, n := range []int{-1, 0, 1, 2, 3, 127, 4097} {
			l, e := takeRanks(s, n)
			checkRanks(t, s, n, l, e)
			if e == api.OK {
				good++
				if got := oplog.PutRanks(l); len(l) != n || got != s {
					t.Errorf("%q is %v, of which PutRanks is %q", s, l, got)
				}
			}
		}
	}
	if good < 60 {
		t.Errorf("no more than %d texts are a list's", good)
	}
}

// move makes one of a Counter and a Replica that lays child below parent.
func move(counter int, replica int, child int, parent int) api.Move {
	return api.Move{Time: api.Time{Counter: counter, Replica: replica}, Child: child, Parent: parent}
}

// known are moves, and their bodies by hand.
func known() []struct {
	l []api.Move
	b [5]string
} {
	top31 := "\xfe\xff\xff\xff\x0f"
	top62 := "\xfe\xff\xff\xff\xff\xff\xff\xff\x7f"
	return []struct {
		l []api.Move
		b [5]string
	}{
		{nil, [5]string{"\x00", "\x00", "\x00", "\x00", "\x00"}},
		{[]api.Move{move(1, 1, 1, 0)}, [5]string{"\x01", "\x01\x02\x01\x01", "\x01\x00\x02", "\x01\x00\x00\x01", "\x01\x01"}},
		{[]api.Move{move(5, 2, 3, 4)}, [5]string{"\x01", "\x01\x0a\x02\x01", "\x01\x08\x06", "\x01\x00\x00\x01", "\x01\x01"}},
		{
			[]api.Move{{Time: api.Time{Counter: top, Replica: 255}, Child: 1<<31 - 1, Parent: 1<<31 - 1, Name: "aä", Rank: 1}},
			[5]string{"\x01", "\x09" + top62 + "\xff\x01\x01", "\x05" + top31 + top31, "\x01\x03a\xc3\xa4\x00\x01", "\x02\x00\x01\xbf\xe0\x03"},
		},
		{
			[]api.Move{
				{Time: api.Time{Counter: 5, Replica: 2}, Child: 3, Name: "b", Rank: minus()},
				{Time: api.Time{Counter: 5, Replica: 3}, Child: 4, Parent: 3, Name: "a"},
				{Time: api.Time{Counter: 9, Replica: 3}, Child: 3, Parent: 1, Name: "b", Rank: none()},
			},
			[5]string{"\x03", "\x03\x0a\x00\x08\x02\x01\x03\x02", "\x03\x00\x06\x03\x06\x02\x01", "\x02\x01b\x01a\x00\x01\x01\x01\x00\x01", "\x04\x00\x01\x01\x01\x80\x01\xff\xf1\x03"},
		},
		{
			[]api.Move{move(1, 7, 9, 1), move(2, 7, 8, 9), {Time: api.Time{Counter: 300, Replica: 7}, Child: 8, Parent: 8, Name: "x", Rank: 1}, {Time: api.Time{Counter: 300, Replica: 8}, Child: 1, Parent: 0, Name: "x", Rank: 1}},
			[5]string{"\x04", "\x05\x02\x02\xd4\x04\x00\x07\x03\x08\x01", "\x04\x02\x10\x01\x0f\x12\x01\x00\x0d", "\x02\x00\x01x\x00\x02\x01\x02", "\x02\x02\x02\xbf\xe0\x03\x00"},
		},
	}
}

// some makes count moves that may be, by chance.
func some(next func() uint64, count int) []api.Move {
	var l []api.Move
	counter := 0
	for i := range count {
		counter += int(next()%3) + 1
		if next()%50 == 0 {
			counter += int(next() % (1 << 50))
		}
		m := move(counter, int(next()%4)+1, int(next()%20)+1, int(next()%20))
		if next()%9 == 0 {
			m.Time.Replica, m.Child, m.Parent = int(next()%255)+1, int(next()%(1<<31-1))+1, int(next()%(1<<31))
		}
		m.Name = []string{"", "a", "b", "aä\U0001f333", strings.Repeat("x", 64), fmt.Sprint("n", i)}[next()%6]
		m.Rank = []float64{0, 0, minus(), 1, 2.5, none(), math.Inf(-1), math.Float64frombits(next())}[next()%8]
		l = append(l, m)
	}
	return l
}

// wrong are moves that may not be.
func wrong() [][]api.Move {
	but := func(change func(m *api.Move)) []api.Move {
		l := []api.Move{move(1, 1, 1, 0), move(2, 1, 2, 1), move(3, 1, 3, 2)}
		change(&l[1])
		return l
	}
	l := [][]api.Move{{{}}, {move(2, 1, 1, 0), move(1, 1, 1, 0)}, {move(1, 1, 1, 0), move(1, 1, 1, 0)}, {move(1, 2, 1, 0), move(1, 1, 1, 0)}, {move(1, 1, 1, 0), move(2, 1, 1, 0), move(1, 2, 1, 0)}}
	for _, n := range []int{0, -1, top + 1, math.MaxInt, math.MinInt} {
		l = append(l, []api.Move{move(n, 1, 1, 0)})
	}
	for _, n := range []int{0, -1, 256, math.MaxInt, math.MinInt} {
		l = append(l, but(func(m *api.Move) { m.Time.Replica = n }))
	}
	for _, n := range []int{0, -1, 1 << 31, math.MaxInt, math.MinInt} {
		l = append(l, but(func(m *api.Move) { m.Child = n }))
	}
	for _, n := range []int{-1, 1 << 31, math.MaxInt, math.MinInt} {
		l = append(l, but(func(m *api.Move) { m.Parent = n }))
	}
	for _, s := range []string{"\xff", "a\x80", strings.Repeat("x", 65), strings.Repeat("x", 63) + "ä", "\xed\xa0\x80"} {
		l = append(l, but(func(m *api.Move) { m.Name = s }))
	}
	many := make([]api.Move, 2001)
	for i := range many {
		many[i] = move(i+1, 1, 1, 0)
	}
	return append(l, many)
}

// checkEncode holds what Encode tells of l against bodies, and what Decode tells of these against l.
func checkEncode(t *testing.T, l []api.Move, b [5]string) {
	t.Helper()
	c, e := oplog.Encode(l)
	if !slices.Equal(c, chunks(b)) || e != api.OK {
		t.Errorf("Encode of %.300v: %s, %d, not %.300q", l, show(c), e, b)
	}
	if m, e := oplog.Decode(chunks(b)); !moves.Same(m, l) || e != api.OK {
		t.Errorf("Decode of %.300q: %.300v, %d, not %.300v", b, m, e, l)
	}
}

// P19.3, P19.4: Encode, and Decode of that, by hand.
func TestKnown(t *testing.T) {
	for _, c := range known() {
		if bodies(c.l) != c.b {
			t.Errorf("the test tells %q of %v", bodies(c.l), c.l)
		}
		checkEncode(t, c.l, c.b)
	}
	checkEncode(t, []api.Move{}, [5]string{"\x00", "\x00", "\x00", "\x00", "\x00"})
}

// P19.3, P19.5: Encode, and Decode of that, of moves by chance, up to as many as may be.
func TestSome(t *testing.T) {
	next := numbers()
	for i := range 300 {
		l := some(next, i%40)
		checkEncode(t, l, bodies(l))
	}
	for _, count := range []int{255, 1999, 2000} {
		l := some(next, count)
		checkEncode(t, l, bodies(l))
	}
}

// P19.3: Encode of moves that may not be.
func TestEncodeWrong(t *testing.T) {
	for _, l := range wrong() {
		if c, e := oplog.Encode(l); len(c) != 0 || e != api.ErrArg {
			t.Errorf("Encode of %.100v: %s, %d", l, show(c), e)
		}
	}
}

// checkDecode holds what Decode tells against l and e.
func checkDecode(t *testing.T, c []api.Chunk, l []api.Move, e api.Errno) {
	t.Helper()
	if got, err := oplog.Decode(c); !moves.Same(got, l) || err != e {
		t.Errorf("Decode of %s: %.300v, %d, not %.300v, %d", show(c), got, err, l, e)
	}
}

// P19.4: chunks of which there are more, or fewer, or that are of other kinds, or in another order, whatever they hold.
func TestKinds(t *testing.T) {
	for _, c := range known() {
		l := chunks(c.b)
		spoilt := [][]api.Chunk{nil, {}, {{}}, make([]api.Chunk, 5), slices.Concat(l, l), append(slices.Clone(l), api.Chunk{}), append(slices.Clone(l), api.Chunk{Kind: 9}), append([]api.Chunk{{Kind: 3}}, l...), append([]api.Chunk{{Kind: 4}}, l...), append(slices.Clone(l), l[4])}
		for i := range l {
			spoilt = append(spoilt, slices.Delete(slices.Clone(l), i, i+1), slices.Insert(slices.Clone(l), i, l[i]))
			if i > 0 {
				spoilt = append(spoilt, slices.Concat(l[i:], l[:i]))
			}
			for _, kind := range []int{0, -1, 3, 4, 5, 6, 7, 8, 9, 260 + i, math.MaxInt, math.MinInt, 1<<32 + 4 + i} {
				if kind != 4+i {
					other := slices.Clone(l)
					other[i].Kind = kind
					empty := slices.Clone(other)
					for k := range empty {
						empty[k].Body = ""
					}
					spoilt = append(spoilt, other, empty)
				}
			}
			for k := range i {
				other := slices.Clone(l)
				other[i], other[k] = other[k], other[i]
				bodies := slices.Clone(l)
				bodies[i].Kind, bodies[k].Kind = bodies[k].Kind, bodies[i].Kind
				spoilt = append(spoilt, other, bodies)
			}
		}
		for _, other := range spoilt {
			checkDecode(t, other, nil, api.ErrForm)
		}
	}
}

// P19.4: Decode of what is wrong in one body, of one move and of two.
func TestDecodeWrong(t *testing.T) {
	one := [5]string{"\x01", "\x01\x0a\x02\x01", "\x01\x00\x06", "\x01\x00\x00\x01", "\x01\x01"}
	two := [5]string{"\x02", "\x02\x0a\x02\x02\x02", "\x02\x00\x00\x06\x02", "\x01\x00\x00\x02", "\x01\x02"}
	sixtyFour, sixtyFive := strings.Repeat("x", 64), strings.Repeat("x", 65)
	for _, c := range []struct {
		of   [5]string
		at   int
		body string
		e    api.Errno
	}{
		// How many there are.
		{one, 0, "", api.ErrCut}, {one, 0, "\x81", api.ErrCut}, {one, 0, "\x81\x00", api.ErrLong}, {one, 0, over64, api.ErrLong}, {one, 0, "\x01\x00", api.ErrForm}, {one, 0, "\x01\x01", api.ErrForm}, {one, 0, "\xd1\x0f\x00", api.ErrForm}, {one, 0, "\xd1\x0f", api.ErrBig}, {one, 0, most63, api.ErrBig}, {one, 0, over63, api.ErrBig}, {one, 0, most64, api.ErrBig}, {one, 0, "\x81\x80\x80\x80\x10", api.ErrBig}, {one, 0, "\xd0\x0f", api.ErrCut}, {one, 0, "\x02", api.ErrCut}, {one, 0, "\x00", api.ErrForm}, {two, 0, "\x01", api.ErrForm},
		// Counters.
		{one, 1, "", api.ErrCut}, {one, 1, "\x80", api.ErrCut}, {one, 1, "\x81\x00\x0a\x02\x01", api.ErrLong}, {one, 1, "\x05\x0a\x02\x01", api.ErrCut}, {one, 1, most64, api.ErrCut}, {one, 1, "\x00\x02\x01", api.ErrCut}, {one, 1, "\x01\x80\x02\x01", api.ErrCut}, {one, 1, "\x02\x80\x00\x02\x01", api.ErrLong}, {one, 1, "\x02\x0a\x0a\x02\x01", api.ErrForm}, {two, 1, "\x02\x0a\x80\x02\x02", api.ErrCut}, {two, 1, "\x03\x0a\x02\x02\x02\x02", api.ErrForm},
		// Replicas.
		{one, 1, "\x01\x0a", api.ErrForm}, {one, 1, "\x01\x0a\x02", api.ErrCut}, {one, 1, "\x01\x0a\x80\x00\x01", api.ErrLong}, {one, 1, "\x01\x0a\x02\x00", api.ErrForm}, {one, 1, "\x01\x0a\x02\x02", api.ErrForm}, {one, 1, "\x01\x0a\x02\x01\x03\x01", api.ErrForm}, {one, 1, "\x01\x0a\x02\x01\x80", api.ErrCut}, {two, 1, "\x02\x0a\x02\x02\x01", api.ErrForm}, {two, 1, "\x02\x0a\x02\x02\x01\x02\x01", api.ErrForm},
		// Parents and Children.
		{one, 2, "", api.ErrCut}, {one, 2, "\x81\x00\x00\x06", api.ErrLong}, {one, 2, "\x03\x00\x06", api.ErrCut}, {one, 2, "\x00\x06", api.ErrCut}, {one, 2, "\x01\x80\x06", api.ErrCut}, {one, 2, "\x02\x80\x00\x06", api.ErrLong}, {one, 2, "\x02\x00\x00\x06", api.ErrForm}, {one, 2, "\x01\x00", api.ErrCut}, {one, 2, "\x01\x00\x86", api.ErrCut}, {one, 2, "\x01\x00\x86\x00", api.ErrLong}, {one, 2, "\x01\x00\x06\x00", api.ErrForm}, {two, 2, "\x02\x00\x00\x06", api.ErrCut},
		// Names.
		{one, 3, "", api.ErrCut}, {one, 3, "\x81\x00", api.ErrLong}, {one, 3, "\x02\x00\x01a\x00\x01", api.ErrBig}, {one, 3, most64, api.ErrBig}, {one, 3, "\x01\x41" + sixtyFive + "\x00\x01", api.ErrBig}, {one, 3, "\x01\x41\xff", api.ErrBig}, {one, 3, "\x01\x01", api.ErrCut}, {one, 3, "\x01\x01\xff\x00\x01", api.ErrText}, {one, 3, "\x00", api.ErrForm}, {one, 3, "\x01\x00\x01\x01", api.ErrForm}, {one, 3, "\x01\x00\x00\x02", api.ErrForm}, {one, 3, "\x01\x00\x00\x01\x80", api.ErrCut}, {two, 3, "\x02\x00\x00\x00\x01\x01\x01", api.ErrForm}, {two, 3, "\x02\x01a\x01b\x01\x01\x00\x01", api.ErrForm},
		// Ranks.
		{one, 4, "", api.ErrCut}, {one, 4, "\x80\x00", api.ErrLong}, {one, 4, "\x02\x01", api.ErrCut}, {one, 4, "\x00", api.ErrForm}, {one, 4, "\x01\x02", api.ErrForm}, {one, 4, "\x01\x80", api.ErrCut}, {one, 4, "\x02\x00\x01", api.ErrCut}, {one, 4, "\x02\x00\x01\x80\x00", api.ErrLong}, {one, 4, "\x02\x00\x01\xff\xf1\x03", api.ErrForm}, {one, 4, "\x02\x00\x01\x00", api.ErrForm}, {one, 4, "\x01\x01\x00", api.ErrForm},
		// A move that may not be.
		{one, 1, "\x01\x00\x02\x01", api.ErrForm}, {one, 1, "\x01\x01\x02\x01", api.ErrForm}, {one, 1, "\x0a" + over63 + "\x02\x01", api.ErrForm}, {one, 1, "\x0a" + most64 + "\x02\x01", api.ErrForm}, {one, 1, "\x01\x0a\x00\x01", api.ErrForm}, {one, 1, "\x01\x0a\x80\x02\x01", api.ErrForm}, {one, 1, "\x01\x0a" + most63 + "\x01", api.ErrForm}, {one, 1, "\x01\x0a" + over63 + "\x01", api.ErrForm}, {one, 1, "\x01\x0a" + most64 + "\x01", api.ErrForm}, {one, 1, "\x01\x0a\x82\x80\x80\x80\x10\x01", api.ErrForm}, {one, 1, "\x01\x0a\x81" + over63[1:] + "\x01", api.ErrForm},
		{one, 2, "\x01\x00\x00", api.ErrForm}, {one, 2, "\x01\x00\x01", api.ErrForm}, {one, 2, "\x01\x00\x80\x80\x80\x80\x10", api.ErrForm}, {one, 2, "\x01\x01\x06", api.ErrForm}, {one, 2, "\x05\x80\x80\x80\x80\x10\x06", api.ErrForm}, {two, 2, "\x02\x00\x00\x06\x05", api.ErrForm}, {two, 2, "\x02\x00\x01\x06\x02", api.ErrForm}, {two, 1, "\x02\x0a\x02\x02\x01\x00\x01", api.ErrForm}, {two, 1, "\x02\x0a\x09\x02\x02", api.ErrForm},
		// All of them may not be; that one may not goes ahead of it.
		{two, 1, "\x02\x0a\x00\x02\x02", api.ErrOrder}, {two, 1, "\x02\x0a\x01\x02\x02", api.ErrOrder}, {two, 1, "\x02\x0a\x00\x03\x01\x02\x01", api.ErrOrder}, {two, 1, "\x02\x0a\x01\x02\x01\x03\x01", api.ErrOrder}, {two, 1, "\x02\x0a\x01\x02\x01\x00\x01", api.ErrForm}, {two, 1, "\x02\x0a\x00\x00\x02", api.ErrForm}, {two, 1, "\x02\x0a\x09\x02\x02", api.ErrForm},
		// What is right.
		{one, 1, "\x01\x0a\xff\x01\x01", api.OK}, {one, 1, "\x09\xfe\xff\xff\xff\xff\xff\xff\xff\x7f\x02\x01", api.OK}, {one, 2, "\x05\xfe\xff\xff\xff\x0f\xfe\xff\xff\xff\x0f", api.OK}, {one, 3, "\x01\x40" + sixtyFour + "\x00\x01", api.OK}, {one, 4, "\x02\x00\x01\x80\x01", api.OK}, {two, 1, "\x02\x0a\x00\x02\x01\x03\x01", api.OK}, {two, 1, "\x02\x0a\x02\x03\x01\x02\x01", api.OK}, {two, 2, "\x02\x00\x00\x06\x00", api.OK},
	} {
		b := c.of
		b[c.at] = c.body
		want, e := decode(chunks(b))
		if e != c.e {
			t.Errorf("the test tells %d of %q", e, b)
		}
		checkDecode(t, chunks(b), want, c.e)
	}
}

// P19.4, R2: bodies that are wrong in some way, all of them together: the first error goes ahead of all others, then
// comes that a move may not be, and last that all may not be.
func TestDecodeFirst(t *testing.T) {
	const late = 100
	type way struct {
		body string
		e    api.Errno
	}
	ways := [5][]way{
		{{"\x02", api.OK}, {"", api.ErrCut}, {"\x82\x00", api.ErrLong}, {"\x02\x00", api.ErrForm}, {"\xd1\x0f", api.ErrBig}},
		{{"\x02\x0a\x02\x02\x02", api.OK}, {"", api.ErrCut}, {"\x82\x00", api.ErrLong}, {"\x01\x0a", api.ErrCut}, {"\x03\x0a\x82\x00", api.ErrLong}, {"\x03\x0a\x02\x02\x80", api.ErrForm}, {"\x02\x0a\x02\x02\x80", api.ErrCut}, {"\x02\x0a\x02\x80\x00", api.ErrLong}, {"\x02\x0a\x02\x02\x01", api.ErrForm}, {"\x02\x0a\x02\x00\x02", late + api.ErrForm}, {"\x02\x0a\x02" + most64 + "\x02", late + api.ErrForm}, {"\x02\x0a\x00\x02\x02", late + api.ErrOrder}},
		{{"\x02\x00\x00\x06\x02", api.OK}, {"", api.ErrCut}, {"\x82\x00", api.ErrLong}, {"\x02\x00\x80\x80\x00", api.ErrCut}, {"\x03\x00\x80\x00\x80", api.ErrLong}, {"\x03\x00\x00\x00\x80\x00", api.ErrForm}, {"\x02\x00\x00\x06", api.ErrCut}, {"\x02\x00\x00\x06\x80\x00", api.ErrLong}, {"\x02\x00\x00\x06\x02\x00", api.ErrForm}, {"\x02\x00\x01\x06\x02", late + api.ErrForm}, {"\x02\x00\x00\x06\x05", late + api.ErrForm}},
		{{"\x01\x00\x00\x02", api.OK}, {"", api.ErrCut}, {"\x80\x00", api.ErrLong}, {"\x03", api.ErrBig}, {"\x01\x41", api.ErrBig}, {"\x01\x01\xff", api.ErrText}, {"\x01\x00\x00\x01", api.ErrForm}},
		{{"\x01\x02", api.OK}, {"", api.ErrCut}, {"\x80\x00", api.ErrLong}, {"\x00", api.ErrForm}, {"\x02\x00\x02\x40\x00\x00", api.ErrForm}, {"\x02\x00\x02\x00\x40", api.ErrForm}},
	}
	var at [5]int
	for {
		var b [5]string
		want, form, order := api.OK, false, false
		for i, k := range at {
			b[i] = ways[i][k].body
			e := ways[i][k].e
			form, order = form || e == late+api.ErrForm, order || e == late+api.ErrOrder
			if want == api.OK && e < late {
				want = e
			}
		}
		if want == api.OK && form {
			want = api.ErrForm
		} else if want == api.OK && order {
			want = api.ErrOrder
		}
		if l, e := oplog.Decode(chunks(b)); e != want || (len(l) == 2) != (want == api.OK) || e != api.OK && len(l) > 0 {
			t.Fatalf("Decode of %q: %v, %d, not %d", b, l, e, want)
		}
		i := 0
		for ; i < 5; i++ {
			if at[i]++; at[i] < len(ways[i]) {
				break
			}
			at[i] = 0
		}
		if i == 5 {
			return
		}
	}
}

// P19.4: more moves than may be, each of which may be.
func TestDecodeBig(t *testing.T) {
	var l []api.Move
	for i := range 2001 {
		l = append(l, move(i+1, i%255+1, i+1, i))
	}
	checkDecode(t, chunks(bodies(l[:2000])), l[:2000], api.OK)
	checkDecode(t, chunks(bodies(l)), nil, api.ErrBig)
	// Of 2000, the last one is not behind the one ahead.
	l[1999].Time = l[1998].Time
	checkDecode(t, chunks(bodies(l[:2000])), nil, api.ErrOrder)
	l[1999] = move(2000, 256, 1, 0)
	checkDecode(t, chunks(bodies(l[:2000])), nil, api.ErrForm)
}

// P19.4: what Encode would tell of moves that may not be is decoded as none.
func TestDecodeNone(t *testing.T) {
	for _, l := range wrong() {
		want, e := decode(chunks(bodies(l)))
		if e == api.OK {
			t.Errorf("the test tells no error of %.100v", l)
		}
		checkDecode(t, chunks(bodies(l)), want, e)
	}
}

// P19.4, P19.5: bodies of moves, spoilt at one place each: they are no moves', or just other ones', which have these
// bodies.
func TestDecodeSpoilt(t *testing.T) {
	next := numbers()
	all := known()
	for i := range 6 {
		l := some(next, i+2)
		all = append(all, struct {
			l []api.Move
			b [5]string
		}{l, bodies(l)})
	}
	good := 0
	told := map[api.Errno]int{}
	for _, c := range all {
		for i := range c.b {
			for _, body := range near(c.b[i], "\x00\x01\x02\x03\x05\x40a\x80\xc3\xff") {
				b := c.b
				b[i] = body
				l := chunks(b)
				want, e := decode(l)
				checkDecode(t, l, want, e)
				told[e]++
				if e == api.OK && body != c.b[i] {
					good++
					if again, e := oplog.Encode(want); !slices.Equal(again, l) || e != api.OK {
						t.Errorf("%q is %v, of which Encode is %s, %d", b, want, show(again), e)
					}
				}
			}
		}
	}
	if good < 500 {
		t.Errorf("no more than %d spoilt ones are moves'", good)
	}
	for _, e := range []api.Errno{api.ErrCut, api.ErrLong, api.ErrText, api.ErrForm, api.ErrBig, api.ErrOrder} {
		if told[e] < 10 {
			t.Errorf("%d told %d times", e, told[e])
		}
	}
}

// P19.4, P19.5: all bodies that are short: they are no moves', or just some's, whose bodies they are.
func TestDecodeAll(t *testing.T) {
	one := [5]string{"\x01", "\x01\x02\x01\x01", "\x01\x00\x02", "\x01\x00\x00\x01", "\x01\x01"}
	two := [5]string{"\x02", "\x02\x02\x02\x01\x02", "\x02\x00\x00\x02\x00", "\x01\x00\x00\x02", "\x01\x02"}
	good := 0
	for _, of := range [][5]string{one, two} {
		for i := range of {
			for _, body := range texts(5, "\x00\x01\x02\x04\x80\xff") {
				b := of
				b[i] = body
				l := chunks(b)
				want, e := decode(l)
				checkDecode(t, l, want, e)
				if e == api.OK {
					good++
					if again, e := oplog.Encode(want); !slices.Equal(again, l) || e != api.OK {
						t.Errorf("%q is %v, of which Encode is %s, %d", b, want, show(again), e)
					}
				}
			}
		}
	}
	if good < 50 {
		t.Errorf("no more than %d are moves'", good)
	}
}

// P19.5: no two lists of moves have the same bodies.
func TestUnlike(t *testing.T) {
	next := numbers()
	seen := map[[5]string][]api.Move{}
	for i := range 3000 {
		l := some(next, i%4)
		c, _ := oplog.Encode(l)
		var b [5]string
		for k := range b {
			b[k] = c[k].Body
		}
		if other, is := seen[b]; is && !moves.Same(other, l) {
			t.Fatalf("%v and %v are both %q", l, other, b)
		}
		seen[b] = l
	}
}

// R5: what is handed in stays as it was, and what is answered is not changed by what comes then.
func TestApart(t *testing.T) {
	next := numbers()
	l := some(next, 30)
	was := slices.Clone(l)
	first, _ := oplog.Encode(l)
	kept := slices.Clone(first)
	back, _ := oplog.Decode(first)
	if !moves.Same(l, was) || !slices.Equal(first, kept) {
		t.Error("what was handed in is changed")
	}
	second, _ := oplog.Encode(l)
	clear(second)
	clear(l)
	third, _ := oplog.Encode(some(next, 30))
	oplog.Decode(third)
	if !slices.Equal(first, kept) || !moves.Same(back, was) {
		t.Error("what was answered is changed")
	}
	other, _ := oplog.Decode(first)
	clear(other)
	if again, _ := oplog.Decode(first); !moves.Same(again, was) || !moves.Same(back, was) {
		t.Error("Decode shares")
	}
	points := []float64{0, 1, 0, 2, 0, minus(), 3}
	s := oplog.PutRanks(points[1:6])
	if !reals.Same(points, []float64{0, 1, 0, 2, 0, minus(), 3}) {
		t.Errorf("PutRanks changes its numbers: %v", points)
	}
	a, _ := oplog.TakeRanks(s, 5)
	b, _ := oplog.TakeRanks(s, 5)
	clear(b)
	if !reals.Same(a, points[1:6]) {
		t.Errorf("TakeRanks shares: %v", a)
	}
}

// R6: what was called ahead is of no moment, be it an error.
func TestAgain(t *testing.T) {
	good := known()[4]
	for range 20 {
		checkEncode(t, good.l, good.b)
		checkDecode(t, chunks([5]string{"\x01", "", "", "", ""}), nil, api.ErrCut)
		checkRanks(t, "\x02\x00\x01\x80\x01", 1, []float64{minus()}, api.OK)
		checkRanks(t, "\x80\x00", 1, nil, api.ErrLong)
		if _, e := oplog.Encode([]api.Move{{}}); e != api.ErrArg {
			t.Errorf("Encode: %d", e)
		}
	}
}
