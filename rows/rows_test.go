package rows_test

import (
	"encoding/binary"
	"fmt"
	"math"
	"slices"
	"strings"
	"testing"
	"unicode/utf8"

	"bonsai/api"
	"bonsai/moves"
	"bonsai/rows"
)

const (
	top      = 1<<62 - 1
	node     = 1<<31 - 1
	noNumber = 0x7ff8000000000000
)

// begin is what each file begins with.
const begin = "BNSI\x01"

// Numbers that are too great for an int, or for what stands behind them, as bytes.
const (
	most63 = "\xff\xff\xff\xff\xff\xff\xff\xff\x7f"
	over63 = "\x80\x80\x80\x80\x80\x80\x80\x80\x80\x01"
	most64 = "\xff\xff\xff\xff\xff\xff\xff\xff\xff\x01"
	over64 = "\xff\xff\xff\xff\xff\xff\xff\xff\xff\x02"
)

// Ranks as bytes.
const (
	nought = "\x00\x00\x00\x00\x00\x00\x00\x00"
	one    = "\x00\x00\x00\x00\x00\x00\xf0\x3f"
)

// minus is nought with a minus, none is no number.
func minus() float64 { return math.Copysign(0, -1) }
func none() float64  { return math.NaN() }

// numbers goes without an end by numbers that look like chance, and are the same each time.
func numbers() func() uint64 {
	u := uint64(0x9e3779b97f4a7c15)
	return func() uint64 {
		u = u*6364136223846793005 + 1442695040888963407
		return u ^ u>>29
	}
}

// texts tells all texts of up to so many bytes of some.
func texts(most int, some string) []string {
	all := []string{""}
	for begin := 0; len(all[begin]) < most; begin++ {
		for i := range len(some) {
			all = append(all, all[begin]+some[i:i+1])
		}
	}
	return all
}

// near tells s with a byte more, less or otherwise at each place, and each begin of it.
func near(s string, some string) []string {
	var all []string
	for i := range len(s) + 1 {
		all = append(all, s[:i])
		for k := range len(some) {
			b := some[k : k+1]
			all = append(all, s[:i]+b+s[i:])
			if i < len(s) {
				all = append(all, s[:i]+b+s[i+1:], s[:i]+s[i+1:])
			}
		}
	}
	return all
}

// move makes one of a Counter and a Replica that lays child below parent.
func move(counter int, replica int, child int, parent int) api.Move {
	return api.Move{Time: api.Time{Counter: counter, Replica: replica}, Child: child, Parent: parent}
}

// named makes one with a Name and a Rank.
func named(counter int, replica int, child int, parent int, name string, f float64) api.Move {
	m := move(counter, replica, child, parent)
	m.Name, m.Rank = name, f
	return m
}

// many tells count moves, each of a node of its own.
func many(count int) []api.Move {
	var l []api.Move
	for i := range count {
		l = append(l, named(i/200+1, i%200+1, i+1, i, fmt.Sprint(i%7), float64(i%3)))
	}
	return l
}

// some tells count moves by chance that may be.
func some(next func() uint64, count int) []api.Move {
	names := []string{"", "a", "\xc3\xa4", "\xf4\x8f\xbf\xbf", strings.Repeat("x", 64), "\x00"}
	ranks := []float64{0, minus(), 1, none(), math.Inf(-1), 0x1p-1074}
	var l []api.Move
	counter := 0
	for range count {
		counter += int(next()>>(8+next()%55)) + 1
		m := named(counter, int(next()%255)+1, int(next()%node)+1, int(next()%(node+1)), names[next()%6], ranks[next()%6])
		if next()%4 == 0 {
			m.Rank = math.Float64frombits(next())
		}
		if next()%2 == 0 {
			m.Child, m.Parent = int(next()%5)+1, int(next()%5)
		}
		l = append(l, m)
		if m.Time.Replica < 250 && next()%2 == 0 {
			m.Time.Replica += 3
			l = append(l, m)
		}
	}
	return l
}

// show tells v so that it can be read, where there is not too much of it.
func show(v any) string {
	return fmt.Sprintf("%.300s", fmt.Sprintf("%+v", v))
}

// whole tells by the document's words what One is to tell.
func whole(m api.Move) string {
	var b []byte
	for _, n := range []int{m.Time.Counter, m.Time.Replica, m.Parent, m.Child, len(m.Name)} {
		b = binary.AppendUvarint(b, uint64(n))
	}
	b = append(b, m.Name...)
	if math.IsNaN(m.Rank) {
		return string(binary.LittleEndian.AppendUint64(b, noNumber))
	}
	return string(binary.LittleEndian.AppendUint64(b, math.Float64bits(m.Rank)))
}

// encode tells by the document's words what Encode is to tell of moves, whether they may be or not.
func encode(l []api.Move) string {
	s := "BNSI\x01" + string(binary.AppendUvarint(nil, uint64(len(l))))
	for _, m := range l {
		s += whole(m)
	}
	return s
}

// num tells by the document's words the number at the begin of s, and what stands behind it.
func num(s string) (uint64, string, api.Errno) {
	var n uint64
	for i := 0; ; i++ {
		if i == len(s) {
			return 0, "", api.ErrCut
		}
		b := s[i]
		if i == 9 && b > 1 || i > 0 && b == 0 {
			return 0, "", api.ErrLong
		}
		n += uint64(b&127) << (7 * i)
		if b < 128 {
			return n, s[i+1:], api.OK
		}
	}
}

// take tells by the document's words the move at the begin of s, and what stands behind it.
func take(s string) (api.Move, string, api.Errno) {
	var m api.Move
	var four [4]uint64
	var e api.Errno
	for i := range four {
		if four[i], s, e = num(s); e != api.OK {
			return m, "", e
		}
	}
	size, s, e := num(s)
	switch {
	case e != api.OK:
		return m, "", e
	case size > 64:
		return m, "", api.ErrBig
	case size > uint64(len(s)):
		return m, "", api.ErrCut
	case !utf8.ValidString(s[:size]):
		return m, "", api.ErrText
	case len(s) < int(size)+8:
		return m, "", api.ErrCut
	}
	u := binary.LittleEndian.Uint64([]byte(s[size:]))
	if u>>52&2047 == 2047 && u<<12 != 0 && u != noNumber {
		return m, "", api.ErrForm
	}
	if four[0] < 1 || four[0] > top || four[1] < 1 || four[1] > 255 || four[2] > node || four[3] < 1 || four[3] > node {
		return m, "", api.ErrForm
	}
	m = move(int(four[0]), int(four[1]), int(four[3]), int(four[2]))
	m.Name, m.Rank = s[:size], math.Float64frombits(u)
	return m, s[size+8:], api.OK
}

// decode tells by the document's words what Decode is to tell.
func decode(s string) ([]api.Move, api.Errno) {
	switch {
	case len(s) < 4 || s[:4] != "BNSI":
		return nil, api.ErrMagic
	case len(s) < 5:
		return nil, api.ErrCut
	case s[4] != 1:
		return nil, api.ErrVersion
	}
	n, s, e := num(s[5:])
	if e != api.OK {
		return nil, e
	}
	if n > 2000 {
		return nil, api.ErrBig
	}
	var l []api.Move
	var ahead api.Time
	for range n {
		var m api.Move
		if m, s, e = take(s); e != api.OK {
			return nil, e
		}
		if m.Time.Counter < ahead.Counter || m.Time.Counter == ahead.Counter && m.Time.Replica <= ahead.Replica {
			return nil, api.ErrOrder
		}
		ahead = m.Time
		l = append(l, m)
	}
	if s != "" {
		return nil, api.ErrForm
	}
	return l, api.OK
}

// checkEncode holds what Encode tells of l against s, and what Decode tells of s against l.
func checkEncode(t *testing.T, l []api.Move, s string) {
	t.Helper()
	if got, e := rows.Encode(l); got != s || e != api.OK {
		t.Errorf("Encode of %s: %.200q, %d, not %.200q", show(l), got, e, s)
	}
	checkDecode(t, s, l, api.OK)
}

// checkDecode holds what Decode tells of s against l and e.
func checkDecode(t *testing.T, s string, l []api.Move, e api.Errno) {
	t.Helper()
	if got, err := rows.Decode(s); !moves.Same(got, l) || err != e {
		t.Errorf("Decode of %.200q: %s, %d, not %s, %d", s, show(got), err, show(l), e)
	}
}

// lone are moves that may be, and their bytes by hand.
func lone() []struct {
	m api.Move
	s string
} {
	return []struct {
		m api.Move
		s string
	}{
		{move(1, 1, 1, 0), "\x01\x01\x00\x01\x00" + nought},
		{move(5, 2, 3, 4), "\x05\x02\x04\x03\x00" + nought},
		{move(5, 2, 3, 3), "\x05\x02\x03\x03\x00" + nought},
		{move(127, 127, 127, 127), "\x7f\x7f\x7f\x7f\x00" + nought},
		{move(128, 128, 128, 128), "\x80\x01\x80\x01\x80\x01\x80\x01\x00" + nought},
		{move(top, 255, node, node-1), "\xff\xff\xff\xff\xff\xff\xff\xff\x3f\xff\x01\xfe\xff\xff\xff\x07\xff\xff\xff\xff\x07\x00" + nought},
		{move(1, 1, 1, node), "\x01\x01\xff\xff\xff\xff\x07\x01\x00" + nought},
		{named(1, 1, 1, 0, "a", 1), "\x01\x01\x00\x01\x01a" + one},
		{named(1, 1, 1, 0, "\x00", -1), "\x01\x01\x00\x01\x01\x00\x00\x00\x00\x00\x00\x00\xf0\xbf"},
		{named(1, 1, 1, 0, "a\xc3\xa4\xf0\x9f\x8c\xb3", minus()), "\x01\x01\x00\x01\x07a\xc3\xa4\xf0\x9f\x8c\xb3\x00\x00\x00\x00\x00\x00\x00\x80"},
		{named(1, 1, 1, 0, strings.Repeat("y", 64), none()), "\x01\x01\x00\x01\x40" + strings.Repeat("y", 64) + "\x00\x00\x00\x00\x00\x00\xf8\x7f"},
		{named(1, 1, 1, 0, strings.Repeat("\xc3\xa4", 32), math.Inf(1)), "\x01\x01\x00\x01\x40" + strings.Repeat("\xc3\xa4", 32) + "\x00\x00\x00\x00\x00\x00\xf0\x7f"},
		{named(1, 1, 1, 0, "", math.Inf(-1)), "\x01\x01\x00\x01\x00\x00\x00\x00\x00\x00\x00\xf0\xff"},
		{named(1, 1, 1, 0, "", 0x1p-1074), "\x01\x01\x00\x01\x00\x01\x00\x00\x00\x00\x00\x00\x00"},
		{named(1, 1, 1, 0, "", math.MaxFloat64), "\x01\x01\x00\x01\x00\xff\xff\xff\xff\xff\xff\xef\x7f"},
		{named(1, 1, 1, 0, "", math.Float64frombits(0x0123456789abcdef)), "\x01\x01\x00\x01\x00\xef\xcd\xab\x89\x67\x45\x23\x01"},
	}
}

// wrong are moves that may not be, and their bytes by hand.
func wrong() []struct {
	m api.Move
	s string
	e api.Errno
} {
	return []struct {
		m api.Move
		s string
		e api.Errno
	}{
		{api.Move{}, "\x00\x00\x00\x00\x00" + nought, api.ErrForm},
		{move(0, 1, 1, 0), "\x00\x01\x00\x01\x00" + nought, api.ErrForm},
		{move(-1, 1, 1, 0), most64 + "\x01\x00\x01\x00" + nought, api.ErrForm},
		{move(math.MinInt, 1, 1, 0), over63 + "\x01\x00\x01\x00" + nought, api.ErrForm},
		{move(math.MinInt+1, 1, 1, 0), "\x81" + over63[1:] + "\x01\x00\x01\x00" + nought, api.ErrForm},
		{move(top+1, 1, 1, 0), "\x80\x80\x80\x80\x80\x80\x80\x80\x40\x01\x00\x01\x00" + nought, api.ErrForm},
		{move(math.MaxInt, 1, 1, 0), most63 + "\x01\x00\x01\x00" + nought, api.ErrForm},
		{move(1, 0, 1, 0), "\x01\x00\x00\x01\x00" + nought, api.ErrForm},
		{move(1, -1, 1, 0), "\x01" + most64 + "\x00\x01\x00" + nought, api.ErrForm},
		{move(1, 256, 1, 0), "\x01\x80\x02\x00\x01\x00" + nought, api.ErrForm},
		{move(1, 257, 1, 0), "\x01\x81\x02\x00\x01\x00" + nought, api.ErrForm},
		{move(1, math.MinInt+1, 1, 0), "\x01\x81" + over63[1:] + "\x00\x01\x00" + nought, api.ErrForm},
		{move(1, 1<<32+1, 1, 0), "\x01\x81\x80\x80\x80\x10\x00\x01\x00" + nought, api.ErrForm},
		{move(1, 1, 0, 0), "\x01\x01\x00\x00\x00" + nought, api.ErrForm},
		{move(1, 1, 0, 1), "\x01\x01\x01\x00\x00" + nought, api.ErrForm},
		{move(1, 1, -1, 0), "\x01\x01\x00" + most64 + "\x00" + nought, api.ErrForm},
		{move(1, 1, math.MinInt+1, 0), "\x01\x01\x00\x81" + over63[1:] + "\x00" + nought, api.ErrForm},
		{move(1, 1, node+1, 0), "\x01\x01\x00\x80\x80\x80\x80\x08\x00" + nought, api.ErrForm},
		{move(1, 1, 1<<32+1, 0), "\x01\x01\x00\x81\x80\x80\x80\x10\x00" + nought, api.ErrForm},
		{move(1, 1, 1, -1), "\x01\x01" + most64 + "\x01\x00" + nought, api.ErrForm},
		{move(1, 1, 1, math.MinInt), "\x01\x01" + over63 + "\x01\x00" + nought, api.ErrForm},
		{move(1, 1, 1, node+1), "\x01\x01\x80\x80\x80\x80\x08\x01\x00" + nought, api.ErrForm},
		{move(1, 1, 1, math.MaxInt), "\x01\x01" + most63 + "\x01\x00" + nought, api.ErrForm},
		{move(-1, -1, -1, -1), most64 + most64 + most64 + most64 + "\x00" + nought, api.ErrForm},
		{named(1, 1, 1, 0, "\xff", 0), "\x01\x01\x00\x01\x01\xff" + nought, api.ErrText},
		{named(1, 1, 1, 0, "a\xc3", 1), "\x01\x01\x00\x01\x02a\xc3" + one, api.ErrText},
		{named(1, 1, 1, 0, "\xed\xa0\x80", 1), "\x01\x01\x00\x01\x03\xed\xa0\x80" + one, api.ErrText},
		{named(1, 1, 1, 0, strings.Repeat("x", 65), 0), "\x01\x01\x00\x01\x41" + strings.Repeat("x", 65) + nought, api.ErrBig},
		{named(1, 1, 1, 0, strings.Repeat("\xc3\xa4", 33), 0), "\x01\x01\x00\x01\x42" + strings.Repeat("\xc3\xa4", 33) + nought, api.ErrBig},
		{named(1, 1, 1, 0, strings.Repeat("\xff", 300), 1), "\x01\x01\x00\x01\xac\x02" + strings.Repeat("\xff", 300) + one, api.ErrBig},
		{named(0, 1, 1, 0, "\xff", 0), "\x00\x01\x00\x01\x01\xff" + nought, api.ErrText},
		{named(0, 1, 1, 0, strings.Repeat("x", 65), none()), "\x00\x01\x00\x01\x41" + strings.Repeat("x", 65) + "\x00\x00\x00\x00\x00\x00\xf8\x7f", api.ErrBig},
	}
}

// P21.1: One of moves that may be, and of such that may not.
func TestOne(t *testing.T) {
	for _, c := range lone() {
		if got := rows.One(c.m); got != c.s || whole(c.m) != c.s {
			t.Errorf("One of %s: %q, not %q", show(c.m), got, c.s)
		}
	}
	for _, c := range wrong() {
		if got := rows.One(c.m); got != c.s || whole(c.m) != c.s {
			t.Errorf("One of %s: %q, not %q", show(c.m), got, c.s)
		}
	}
	for _, u := range []uint64{0xfff8000000000000, 0x7ff0000000000001, 0xffffffffffffffff, 0x7ff8000000000001} {
		m := named(1, 1, 1, 0, "", math.Float64frombits(u))
		if got := rows.One(m); got != "\x01\x01\x00\x01\x00\x00\x00\x00\x00\x00\x00\xf8\x7f" {
			t.Errorf("One of no number, %x: %q", u, got)
		}
	}
	long := named(1, 1, 1, 0, strings.Repeat("n", 70000), 0)
	if got := rows.One(long); got != whole(long) {
		t.Errorf("One of a Name of 70000 bytes: %.60q", got)
	}
}

// P21.2, P21.3: Encode, and Decode of that, by hand.
func TestKnown(t *testing.T) {
	checkEncode(t, nil, begin+"\x00")
	checkEncode(t, []api.Move{}, begin+"\x00")
	for _, c := range lone() {
		checkEncode(t, []api.Move{c.m}, begin+"\x01"+c.s)
	}
	first, second, third := named(300, 1, 2, 1, "\xc3\xa4", minus()), named(300, 200, 1, 2, "", none()), named(301, 1, 2, 1, "b", 1)
	checkEncode(t, []api.Move{first, second}, begin+"\x02\xac\x02\x01\x01\x02\x02\xc3\xa4\x00\x00\x00\x00\x00\x00\x00\x80\xac\x02\xc8\x01\x02\x01\x00\x00\x00\x00\x00\x00\x00\xf8\x7f")
	checkEncode(t, []api.Move{first, third}, begin+"\x02\xac\x02\x01\x01\x02\x02\xc3\xa4\x00\x00\x00\x00\x00\x00\x00\x80\xad\x02\x01\x01\x02\x01b"+one)
	checkEncode(t, []api.Move{first, second, third}, begin+"\x03\xac\x02\x01\x01\x02\x02\xc3\xa4\x00\x00\x00\x00\x00\x00\x00\x80\xac\x02\xc8\x01\x02\x01\x00\x00\x00\x00\x00\x00\x00\xf8\x7f\xad\x02\x01\x01\x02\x01b"+one)
	for _, n := range []int{2, 127, 128, 1999, 2000} {
		checkEncode(t, many(n), encode(many(n)))
	}
}

// P21.2, P21.4: Encode of moves by chance: decoded they are as they were, and no other ones have their file.
func TestSome(t *testing.T) {
	next := numbers()
	seen := map[string][]api.Move{}
	for i := range 500 {
		l := some(next, i%12)
		s := encode(l)
		checkEncode(t, l, s)
		if other, is := seen[s]; is && !moves.Same(other, l) {
			t.Errorf("%v and %v are both %q", l, other, s)
		}
		seen[s] = l
	}
}

// P21.2: Encode of moves of which one may not be, or which stand in no order, or are too many.
func TestEncodeWrong(t *testing.T) {
	var all [][]api.Move
	for _, c := range wrong() {
		all = append(all, []api.Move{c.m}, []api.Move{move(1, 1, 1, 0), c.m}, []api.Move{c.m, move(top, 255, 1, 0)})
	}
	all = append(all, many(2001), []api.Move{move(1, 1, 1, 0), move(1, 1, 1, 0)}, []api.Move{move(2, 1, 1, 0), move(1, 1, 1, 0)}, []api.Move{move(1, 2, 1, 0), move(1, 1, 1, 0)}, []api.Move{move(1, 1, 1, 0), move(3, 1, 1, 0), move(2, 9, 1, 0)})
	for _, l := range all {
		if s, e := rows.Encode(l); s != "" || e != api.ErrArg {
			t.Errorf("Encode of %s: %.60q, %d", show(l), s, e)
		}
	}
}

// P21.3: files that begin otherwise, whatever stands behind.
func TestDecodeBegin(t *testing.T) {
	for _, rest := range []string{"", "\x00", "\x01", "\x80\x00", "\xd1\x0f", "\x01\x01\x01\x00\x01\x00" + nought} {
		for _, s := range []string{"", "B", "BN", "BNS", "bnsi\x01", "BNSJ\x01", "BNS\x01", "\x01BNSI", " BNSI\x01", "ANSI\x01", "BMSI\x01", "BNRI\x01", "BNSi\x01"} {
			checkDecode(t, s+rest, nil, api.ErrMagic)
		}
		for v := range 256 {
			if v != 1 {
				checkDecode(t, "BNSI"+string([]byte{byte(v)})+rest, nil, api.ErrVersion)
			}
		}
	}
	checkDecode(t, "BNSI", nil, api.ErrCut)
	checkDecode(t, "BNSI\x01", nil, api.ErrCut)
}

// P21.3, R2: how many moves there are is asked ahead of these.
func TestDecodeCount(t *testing.T) {
	for _, c := range []struct {
		s string
		e api.Errno
	}{
		{"", api.ErrCut}, {"\x80", api.ErrCut}, {"\xff\xff", api.ErrCut}, {"\x80\x00", api.ErrLong}, {"\x81\x00", api.ErrLong}, {"\x80\x80\x00", api.ErrLong}, {over64, api.ErrLong},
		{"\xd1\x0f", api.ErrBig}, {"\xd2\x0f", api.ErrBig}, {"\xff\x7f", api.ErrBig}, {"\x80\x80\x80\x80\x10", api.ErrBig}, {"\x81\x80\x80\x80\x10", api.ErrBig}, {most63, api.ErrBig}, {over63, api.ErrBig}, {"\x81" + over63[1:], api.ErrBig}, {most64, api.ErrBig},
		{"\xd0\x0f", api.ErrCut}, {"\x01", api.ErrCut}, {"\x7f", api.ErrCut},
	} {
		checkDecode(t, begin+c.s, nil, c.e)
		if c.e != api.ErrCut {
			for _, rest := range []string{"\x00", "\x80\x00", "\x01\x01\x00\x01\x00" + nought, "\x00\x00\x00\x00\x41"} {
				checkDecode(t, begin+c.s+rest, nil, c.e)
			}
		}
	}
}

// P21.3: what One tells of a move that may not be is decoded as none, behind a good one, too.
func TestDecodeNone(t *testing.T) {
	ahead := whole(move(1, 1, 1, 0))
	for _, c := range wrong() {
		checkDecode(t, begin+"\x01"+c.s, nil, c.e)
		checkDecode(t, begin+"\x02"+ahead+c.s, nil, c.e)
		checkDecode(t, begin+"\x03"+ahead+c.s+ahead, nil, c.e)
		checkDecode(t, begin+"\x03"+ahead+c.s+"\x80\x00", nil, c.e)
	}
}

// P21.3, R2: the parts of a move, each of them good or wrong in some way, all of them together: the first error goes ahead
// of all others, but a number that may not be is told behind all that is read.
func TestDecodeFirst(t *testing.T) {
	type way struct {
		s string
		e api.Errno
	}
	numbers := []way{{"\x05", api.OK}, {"\x00", api.ErrForm}, {over63, api.ErrForm}, {most64, api.ErrForm}, {"\x85\x80\x80\x80\x80\x80\x80\x80\x80\x01", api.ErrForm}, {"\x85\x00", api.ErrLong}, {over64, api.ErrLong}}
	four := [4][]way{numbers, numbers, numbers, numbers}
	four[2] = append([]way{{"\x00", api.OK}}, numbers[2:]...)
	names := []way{{"\x00", api.OK}, {"\x01a", api.OK}, {"\x01\xff", api.ErrText}, {"\x41" + strings.Repeat("a", 65), api.ErrBig}, {"\x40" + strings.Repeat("\xff", 64), api.ErrText}, {most64, api.ErrBig}, {"\x80\x00", api.ErrLong}, {"\x40abc", api.ErrCut}}
	ranks := []way{{nought, api.OK}, {one, api.OK}, {"\x00\x00\x00\x00\x00\x00\xf8\x7f", api.OK}, {"\x01\x00\x00\x00\x00\x00\xf0\x7f", api.ErrForm}, {"\x00\x00\x00\x00\x00\x00\xf8\xff", api.ErrForm}, {"\x01\x00\x00\x00\x00\x00\xf8\x7f", api.ErrForm}, {"\xff\xff\xff\xff\xff\xff\xff\xff", api.ErrForm}, {"\x00\x00\x00\x00\x00\x00\x00", api.ErrCut}, {"", api.ErrCut}}
	told := map[api.Errno]int{}
	var each func(i int, s string, long bool, form bool)
	each = func(i int, s string, long bool, form bool) {
		if i < 4 {
			for _, w := range four[i] {
				each(i+1, s+w.s, long || w.e == api.ErrLong, form || w.e == api.ErrForm)
			}
			return
		}
		for _, name := range names {
			for _, rank := range ranks {
				e := api.OK
				switch {
				case long:
					e = api.ErrLong
				case name.e != api.OK:
					e = name.e
				case rank.e == api.ErrCut:
					e = api.ErrCut
				case form:
					e = api.ErrForm
				default:
					e = rank.e
				}
				file := begin + "\x01" + s + name.s + rank.s
				l, want := decode(file)
				if want != e {
					t.Fatalf("the test tells %d of %q, not %d", want, file, e)
				}
				told[e]++
				checkDecode(t, file, l, e)
			}
		}
	}
	each(0, "", false, false)
	for _, e := range []api.Errno{api.OK, api.ErrCut, api.ErrLong, api.ErrText, api.ErrForm, api.ErrBig} {
		if told[e] < 4 {
			t.Errorf("%d told %d times", e, told[e])
		}
	}
}

// P21.3: of two moves, and of three, each of few Times, only such may be that rise.
func TestDecodeOrder(t *testing.T) {
	var times []api.Time
	for _, counter := range []int{1, 2, 128, top} {
		for _, replica := range []int{1, 2, 128, 255} {
			times = append(times, api.Time{Counter: counter, Replica: replica})
		}
	}
	for i, a := range times {
		for k, b := range times {
			first, second := move(a.Counter, a.Replica, 1, 0), named(b.Counter, b.Replica, 2, 1, "b", 1)
			l, e := []api.Move{first, second}, api.OK
			if k <= i {
				l, e = nil, api.ErrOrder
			}
			s := whole(first) + whole(second)
			checkDecode(t, begin+"\x02"+s, l, e)
			if e == api.OK {
				continue
			}
			// Ahead of what comes behind, whatever that is.
			for _, rest := range []string{"", "\x00", "\x80\x00", "\x00\x00\x00\x00\x00" + nought, whole(move(top, 255, 1, 0))} {
				checkDecode(t, begin+"\x02"+s+rest, nil, api.ErrOrder)
				checkDecode(t, begin+"\x03"+s+rest, nil, api.ErrOrder)
			}
		}
	}
	// Each is held against the one ahead of it, and against no other.
	checkDecode(t, begin+"\x03"+whole(move(2, 1, 1, 0))+whole(move(5, 1, 1, 0))+whole(move(3, 1, 1, 0)), nil, api.ErrOrder)
	checkDecode(t, begin+"\x04"+whole(move(2, 1, 1, 0))+whole(move(5, 1, 1, 0))+whole(move(5, 1, 2, 0)), nil, api.ErrOrder)
	// A move that may not be is told ahead of its Time, and behind the Time of one that stands ahead of it.
	bad := "\x01\x01\x00\x00\x00" + nought
	checkDecode(t, begin+"\x02"+whole(move(2, 1, 1, 0))+bad, nil, api.ErrForm)
	checkDecode(t, begin+"\x03"+whole(move(2, 1, 1, 0))+whole(move(2, 1, 1, 0))+bad, nil, api.ErrOrder)
	checkDecode(t, begin+"\x02"+whole(move(2, 1, 1, 0))+"\x01\x01\x00\x01\x01\xff"+nought, nil, api.ErrText)
	checkDecode(t, begin+"\x02"+whole(move(2, 1, 1, 0))+whole(move(1, 1, 1, 0))[:9], nil, api.ErrCut)
}

// P21.3: files of which something is cut off, or behind which something stands.
func TestDecodeEnd(t *testing.T) {
	next := numbers()
	for i := range 40 {
		l := some(next, i%5)
		s := encode(l)
		for n := range s {
			e := api.ErrCut
			if n < 4 {
				e = api.ErrMagic
			}
			checkDecode(t, s[:n], nil, e)
		}
		for _, rest := range []string{"\x00", "\x01", "\x80", "\x80\x00", "\xff", begin + "\x00", s, whole(move(top, 255, 1, 0))} {
			checkDecode(t, s+rest, nil, api.ErrForm)
		}
	}
}

// P21.3: as many moves as may be, and more.
func TestDecodeBig(t *testing.T) {
	checkDecode(t, encode(many(2001)), nil, api.ErrBig)
	checkDecode(t, begin+"\xd1\x0f"+encode(many(2000))[7:], nil, api.ErrBig)
	checkDecode(t, begin+"\xcf\x0f"+encode(many(2000))[7:], nil, api.ErrForm)
	l := many(2000)
	l[1999].Time = l[1998].Time
	checkDecode(t, encode(l), nil, api.ErrOrder)
	l[1999] = move(2000, 256, 1, 0)
	checkDecode(t, encode(l), nil, api.ErrForm)
	l[0].Name = "\xff"
	checkDecode(t, encode(l), nil, api.ErrText)
}

// P21.3, P21.4: files of all that is short, and of what is nearly one's: each is none, or just one's.
func TestDecodeAll(t *testing.T) {
	var all []string
	for _, s := range texts(5, "\x00\x01\x02\x80\xff") {
		all = append(all, begin+s, begin+"\x01"+s+nought, begin+"\x01\x05\x01"+s+"\x01\x00"+nought, begin+"\x01\x05\x01\x00\x01"+s+nought, begin+"\x01\x05\x01\x00\x01\x00\x00\x00\x00"+s, begin+"\x02\x05\x01\x00\x01\x00"+nought+s+nought)
	}
	next := numbers()
	for i := range 12 {
		all = append(all, near(encode(some(next, i/3)), "\x00\x01\x02\x05\x40\x7fa\x80\xc3\xf0\xff")...)
	}
	for _, c := range lone() {
		all = append(all, near(begin+"\x01"+c.s, "\x00\x01\x02\x7f\x80\xf0\xff")...)
	}
	told := map[api.Errno]int{}
	for _, s := range all {
		l, e := decode(s)
		checkDecode(t, s, l, e)
		told[e]++
		if e == api.OK {
			if got, e := rows.Encode(l); got != s || e != api.OK {
				t.Errorf("%q is %v, of which Encode is %q, %d", s, l, got, e)
			}
		}
	}
	for _, e := range []api.Errno{api.OK, api.ErrCut, api.ErrLong, api.ErrText, api.ErrForm, api.ErrMagic, api.ErrVersion, api.ErrBig, api.ErrOrder} {
		if told[e] < 40 {
			t.Errorf("%d told %d times", e, told[e])
		}
	}
}

// R5: what is handed in stays as it was, and what is answered is not changed by what comes then.
func TestApart(t *testing.T) {
	next := numbers()
	l := some(next, 30)
	was := slices.Clone(l)
	s, _ := rows.Encode(l)
	kept := strings.Clone(s)
	a, _ := rows.Decode(s)
	if !moves.Same(l, was) {
		t.Error("Encode changes its moves")
	}
	clear(l)
	other, _ := rows.Encode(some(next, 30))
	rows.Decode(other)
	b, _ := rows.Decode(s)
	clear(b)
	if s != kept || !moves.Same(a, was) {
		t.Error("what was answered is changed")
	}
}

// R6: what was called ahead is of no moment, be it an error.
func TestAgain(t *testing.T) {
	l := []api.Move{named(300, 1, 2, 1, "\xc3\xa4", minus()), named(300, 200, 1, 2, "", none())}
	for range 20 {
		checkEncode(t, l, encode(l))
		checkDecode(t, begin+"\x01\x80\x00", nil, api.ErrLong)
		checkDecode(t, begin+"\x02"+whole(l[1])+whole(l[0]), nil, api.ErrOrder)
		if _, e := rows.Encode([]api.Move{{}}); e != api.ErrArg {
			t.Errorf("Encode: %d", e)
		}
	}
}
