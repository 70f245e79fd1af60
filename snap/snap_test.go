package snap_test

import (
	"fmt"
	"math"
	"slices"
	"strings"
	"testing"

	"bonsai/api"
	"bonsai/delta"
	"bonsai/dict"
	"bonsai/floor"
	"bonsai/marks"
	"bonsai/oplog"
	"bonsai/pack"
	"bonsai/snap"
	"bonsai/tree"
)

const top = 1<<62 - 1

// Numbers that are too great for an int, or for what stands behind them, as bytes.
const (
	most63 = "\xff\xff\xff\xff\xff\xff\xff\xff\x7f"
	over63 = "\x80\x80\x80\x80\x80\x80\x80\x80\x80\x01"
	most64 = "\xff\xff\xff\xff\xff\xff\xff\xff\xff\x01"
	over64 = "\xff\xff\xff\xff\xff\xff\xff\xff\xff\x02"
)

// minus is nought with a minus, none is no number.
func minus() float64 { return math.Copysign(0, -1) }
func none() float64  { return math.NaN() }

// numbers goes without an end by numbers that look like chance, and are the same each time.
func numbers() func() uint64 {
	u := uint64(0x9e3779b97f4a7c15)
	return func() uint64 {
		u = u*6364136223846793005 + 1442695040888963407
		return u ^ u>>29
	}
}

// texts tells all texts of up to so many bytes of some.
func texts(most int, some string) []string {
	all := []string{""}
	for begin := 0; len(all[begin]) < most; begin++ {
		for i := range len(some) {
			all = append(all, all[begin]+some[i:i+1])
		}
	}
	return all
}

// near tells s with a byte more, less or otherwise at each place, and each begin of it.
func near(s string, some string) []string {
	var all []string
	for i := range len(s) + 1 {
		all = append(all, s[:i])
		for k := range len(some) {
			b := some[k : k+1]
			all = append(all, s[:i]+b+s[i:])
			if i < len(s) {
				all = append(all, s[:i]+b+s[i+1:], s[:i]+s[i+1:])
			}
		}
	}
	return all
}

// list makes marks of Replicas and Counters, one behind the other.
func list(numbers ...int) []api.Mark {
	var v []api.Mark
	for i := 0; i < len(numbers); i += 2 {
		v = append(v, api.Mark{Replica: numbers[i], Counter: numbers[i+1]})
	}
	return v
}

// rows makes rows of Children and Parents, one behind the other, without Names and Ranks.
func rows(nodes ...int) []api.Row {
	var l []api.Row
	for i := 0; i < len(nodes); i += 2 {
		l = append(l, api.Row{Child: nodes[i], Parent: nodes[i+1]})
	}
	return l
}

// all tells marks of count replicas.
func all(count int) []api.Mark {
	var v []api.Mark
	for i := range count {
		v = append(v, api.Mark{Replica: i + 1, Counter: 1000 - i})
	}
	return v
}

// chain tells count rows, each node below the one ahead of it.
func chain(count int) []api.Row {
	var l []api.Row
	for i := range count {
		l = append(l, api.Row{Child: i + 1, Parent: i})
	}
	return l
}

// putMarks tells by the document's words what PutMarks is to tell.
func putMarks(v []api.Mark) string {
	var replicas, counters []int
	for _, m := range v {
		replicas = append(replicas, m.Replica)
		counters = append(counters, m.Counter)
	}
	return pack.Put(uint64(len(v))) + oplog.Part(delta.Encode(replicas)) + delta.Encode(counters)
}

// putRows tells by the document's words what PutRows is to tell.
func putRows(l []api.Row) string {
	var children, parents []int
	var names []string
	var ranks []float64
	for _, r := range l {
		children = append(children, r.Child)
		parents = append(parents, r.Parent)
		names = append(names, r.Name)
		ranks = append(ranks, r.Rank)
	}
	return pack.Put(uint64(len(l))) + oplog.Part(delta.Encode(children)) + oplog.Part(delta.Encode(parents)) + oplog.Part(dict.Encode(names)) + oplog.PutRanks(ranks)
}

// count tells how many there are at the begin of s, most at most, and what stands behind that.
func count(s string, most uint64) (int, string, api.Errno) {
	r := pack.New(s)
	n := r.Num()
	switch {
	case r.Err() != api.OK:
		return 0, "", r.Err()
	case n > most:
		return 0, "", api.ErrBig
	}
	return int(n), s[len(s)-r.Left():], api.OK
}

// takeMarks tells by the document's words what TakeMarks is to tell.
func takeMarks(s string) ([]api.Mark, api.Errno) {
	n, s, e := count(s, 255)
	if e != api.OK {
		return nil, e
	}
	part, s, e := oplog.Cut(s)
	if e != api.OK {
		return nil, e
	}
	replicas, e := delta.Decode(part, n)
	if e != api.OK {
		return nil, e
	}
	counters, e := delta.Decode(s, n)
	if e != api.OK {
		return nil, e
	}
	var v []api.Mark
	for i := range n {
		v = append(v, api.Mark{Replica: replicas[i], Counter: counters[i]})
	}
	if !marks.May(v) {
		return nil, api.ErrForm
	}
	return v, api.OK
}

// takeRows tells by the document's words what TakeRows is to tell.
func takeRows(s string) ([]api.Row, api.Errno) {
	n, s, e := count(s, 2000)
	if e != api.OK {
		return nil, e
	}
	l := make([]api.Row, n)
	for column := range 3 {
		var part string
		var ints []int
		var names []string
		if part, s, e = oplog.Cut(s); e != api.OK {
			return nil, e
		}
		if column < 2 {
			ints, e = delta.Decode(part, n)
		} else {
			names, e = dict.Decode(part, n, 64)
		}
		if e != api.OK {
			return nil, e
		}
		for i := range l {
			switch column {
			case 0:
				l[i].Child = ints[i]
			case 1:
				l[i].Parent = ints[i]
			case 2:
				l[i].Name = names[i]
			}
		}
	}
	ranks, e := oplog.TakeRanks(s, n)
	if e != api.OK {
		return nil, e
	}
	e = api.OK
	for i := range l {
		l[i].Rank = ranks[i]
		if !tree.One(l[i]) {
			return nil, api.ErrForm
		}
		if i > 0 && l[i].Child <= l[i-1].Child {
			e = api.ErrOrder
		}
	}
	if e == api.OK && !tree.May(l) {
		e = api.ErrCycle
	}
	if e != api.OK {
		return nil, e
	}
	return l, api.OK
}

// decode tells by the document's words what Decode is to tell.
func decode(l []api.Chunk) (api.Replica, api.Errno) {
	var r api.Replica
	if len(l) != 3 {
		return r, api.ErrForm
	}
	for i, c := range l {
		if c.Kind != i+1 {
			return r, api.ErrForm
		}
	}
	head := pack.New(l[0].Body)
	counter := head.Num()
	replica := head.Num()
	if e := head.Done(); e != api.OK {
		return r, e
	}
	if counter >= 1<<63 || replica >= 1<<63 {
		return r, api.ErrForm
	}
	base, e := takeRows(l[1].Body)
	if e != api.OK {
		return r, e
	}
	seen, e := takeMarks(l[2].Body)
	if e != api.OK {
		return r, e
	}
	return api.Replica{Base: base, Floor: api.Time{Counter: int(counter), Replica: int(replica)}, Marks: seen}, api.OK
}

// chunks tells three bodies as chunks of the kinds 1 to 3.
func chunks(bodies [3]string) []api.Chunk {
	var l []api.Chunk
	for i, body := range bodies {
		l = append(l, api.Chunk{Kind: i + 1, Body: body})
	}
	return l
}

// show tells chunks so that they can be read, where there are not too many bytes.
func show(l []api.Chunk) string {
	var b strings.Builder
	for _, c := range l {
		fmt.Fprintf(&b, "%d: %.200q; ", c.Kind, c.Body)
	}
	return b.String()
}

// checkMarks holds what TakeMarks tells against v and e.
func checkMarks(t *testing.T, s string, v []api.Mark, e api.Errno) {
	t.Helper()
	if got, err := snap.TakeMarks(s); !slices.Equal(got, v) || err != e {
		t.Errorf("TakeMarks of %.200q: %.200v, %d, not %.200v, %d", s, got, err, v, e)
	}
}

// P20.1: PutMarks, and TakeMarks of that, by hand.
func TestMarks(t *testing.T) {
	for _, c := range []struct {
		v []api.Mark
		s string
	}{
		{nil, "\x00\x00"}, {[]api.Mark{}, "\x00\x00"}, {list(1, 1), "\x01\x01\x02\x02"}, {list(2, 5), "\x01\x01\x04\x0a"}, {list(1, 7, 2, 300), "\x02\x02\x02\x02\x0e\xca\x04"}, {list(3, 9, 7, 2), "\x02\x02\x06\x08\x12\x0d"}, {list(1, 5, 2, 5, 255, 5), "\x03\x04\x02\x02\xfa\x03\x0a\x00\x00"}, {list(255, top), "\x01\x02\xfe\x03\xfe\xff\xff\xff\xff\xff\xff\xff\x7f"},
	} {
		if got := snap.PutMarks(c.v); got != c.s || putMarks(c.v) != c.s {
			t.Errorf("PutMarks of %v: %q, not %q", c.v, got, c.s)
		}
		checkMarks(t, c.s, c.v, api.OK)
	}
	for _, n := range []int{127, 128, 254, 255} {
		s := snap.PutMarks(all(n))
		if s != putMarks(all(n)) {
			t.Errorf("PutMarks of %d: %.60q", n, s)
		}
		checkMarks(t, s, all(n), api.OK)
	}
}

// P20.1: PutMarks of marks that may not be, of which TakeMarks tells none.
func TestMarksNone(t *testing.T) {
	for _, c := range []struct {
		v []api.Mark
		s string
	}{
		{list(0, 0), "\x01\x01\x00\x00"}, {list(-1, -2), "\x01\x01\x01\x03"}, {list(0, 1), "\x01\x01\x00\x02"}, {list(1, 0), "\x01\x01\x02\x00"}, {list(1, -1), "\x01\x01\x02\x01"}, {list(256, 1), "\x01\x02\x80\x04\x02"}, {list(1, top+1), "\x01\x01\x02" + over63}, {list(2, 1, 1, 1), "\x02\x02\x04\x01\x02\x00"}, {list(1, 1, 1, 1), "\x02\x02\x02\x00\x02\x00"}, {list(1, 1, 2, 0), "\x02\x02\x02\x02\x02\x01"}, {list(math.MaxInt, math.MinInt), "\x01\x0a\xfe" + most64[1:] + most64}, {list(1, 1, math.MinInt+1, math.MinInt+1), "\x02\x0b\x02" + most64 + "\x02" + most64},
	} {
		if got := snap.PutMarks(c.v); got != c.s || putMarks(c.v) != c.s {
			t.Errorf("PutMarks of %v: %q, not %q", c.v, got, c.s)
		}
		checkMarks(t, c.s, nil, api.ErrForm)
	}
	over := append(all(255), api.Mark{Replica: 256, Counter: 1})
	if s := snap.PutMarks(over); s != putMarks(over) {
		t.Errorf("PutMarks of 256: %.60q", s)
	}
	checkMarks(t, putMarks(over), nil, api.ErrBig)
	many := make([]api.Mark, 5000)
	if s := snap.PutMarks(many); s != putMarks(many) {
		t.Errorf("PutMarks of 5000: %.60q", s)
	}
}

// P20.1, R2: TakeMarks of what is wrong, the first error ahead of all others.
func TestMarksWrong(t *testing.T) {
	for _, c := range []struct {
		s string
		e api.Errno
	}{
		{"", api.ErrCut}, {"\x80", api.ErrCut}, {"\x80\x00", api.ErrLong}, {over64, api.ErrLong}, {"\x80\x02", api.ErrBig}, {"\x80\x02\x80\x00", api.ErrBig}, {most63, api.ErrBig}, {over63, api.ErrBig}, {most64, api.ErrBig}, {"\x80\x80\x80\x80\x10\x00", api.ErrBig}, {"\xff\x01", api.ErrCut},
		// The part of the Replicas.
		{"\x00", api.ErrCut}, {"\x01", api.ErrCut}, {"\x01\x80", api.ErrCut}, {"\x01\x81\x00\x02\x02", api.ErrLong}, {"\x01\x02\x02", api.ErrCut}, {"\x01\x05\x02\x02", api.ErrCut}, {"\x01" + most64 + "\x02", api.ErrCut}, {"\x01\x00\x02", api.ErrCut}, {"\x01\x00\x80\x00", api.ErrCut}, {"\x01\x01\x80\x80\x00", api.ErrCut}, {"\x01\x02\x80\x00\x80", api.ErrLong}, {"\x01\x02\x02\x02\x80", api.ErrForm}, {"\x00\x01\x00", api.ErrForm}, {"\x00\x01\x00\x80", api.ErrForm}, {"\x02\x01\x02\x02\x00", api.ErrCut},
		// The Counters.
		{"\x01\x01\x02", api.ErrCut}, {"\x01\x01\x00\x80", api.ErrCut}, {"\x01\x01\x00\x80\x00", api.ErrLong}, {"\x01\x01\x00\x02\x00", api.ErrForm}, {"\x00\x00\x00", api.ErrForm}, {"\x00\x00\x80", api.ErrForm}, {"\x02\x02\x02\x02\x02", api.ErrCut}, {"\x02\x02\x02\x02\x02\x80", api.ErrCut},
		// Marks that may not be.
		{"\x01\x01\x00\x02", api.ErrForm}, {"\x01\x01\x02\x00", api.ErrForm}, {"\x01\x02\x80\x04\x02", api.ErrForm}, {"\x02\x02\x02\x00\x02\x00", api.ErrForm}, {"\x02\x02\x04\x01\x02\x00", api.ErrForm}, {"\x02\x02\x02\x02\x02\x01", api.ErrForm}, {"\x01\x0a" + most64 + "\x02", api.ErrForm}, {"\x01\x01\x02" + most64, api.ErrForm},
	} {
		if v, e := takeMarks(c.s); len(v) > 0 || e != c.e {
			t.Errorf("the test tells %d of %q", e, c.s)
		}
		checkMarks(t, c.s, nil, c.e)
	}
}

// P20.1, P20.5: TakeMarks of all short texts, and of ones that are nearly marks': each is none, or just one's.
func TestMarksAll(t *testing.T) {
	every := all(255)
	all := texts(6, "\x00\x01\x02\x04\x80\xff")
	for _, v := range [][]api.Mark{list(1, 7, 2, 300), list(1, 5, 2, 5, 255, 5), list(255, top), every} {
		all = append(all, near(putMarks(v), "\x00\x01\x02\x03\x7f\x80\xff")...)
	}
	good := 0
	for _, s := range all {
		v, e := takeMarks(s)
		checkMarks(t, s, v, e)
		if e == api.OK {
			good++
			if got := snap.PutMarks(v); got != s {
				t.Errorf("%q is %v, of which PutMarks is %q", s, v, got)
			}
		}
	}
	if good < 100 {
		t.Errorf("no more than %d texts are marks'", good)
	}
}

// checkRows holds what TakeRows tells against l and e.
func checkRows(t *testing.T, s string, l []api.Row, e api.Errno) {
	t.Helper()
	if got, err := snap.TakeRows(s); !tree.Same(got, l) || err != e {
		t.Errorf("TakeRows of %.200q: %.200v, %d, not %.200v, %d", s, got, err, l, e)
	}
}

// trees are rows that may be a tree, and their bytes by hand.
func trees() []struct {
	l []api.Row
	s string
} {
	top31 := "\xfe\xff\xff\xff\x0f"
	return []struct {
		l []api.Row
		s string
	}{
		{nil, "\x00\x00\x00\x01\x00\x00"},
		{[]api.Row{}, "\x00\x00\x00\x01\x00\x00"},
		{rows(1, 0), "\x01\x01\x02\x01\x00\x04\x01\x00\x00\x01\x01\x01"},
		{rows(4, 3), "\x01\x01\x08\x01\x06\x04\x01\x00\x00\x01\x01\x01"},
		{rows(1, 2, 2, 0), "\x02\x02\x02\x02\x02\x04\x03\x04\x01\x00\x00\x02\x01\x02"},
		{[]api.Row{{Child: 1}, {Child: 3, Parent: 1, Name: "x", Rank: 1}}, "\x02\x02\x02\x04\x02\x00\x02\x08\x02\x00\x01x\x00\x01\x01\x01\x02\x01\x01\xbf\xe0\x03"},
		{[]api.Row{{Child: 1<<31 - 1, Parent: 1<<31 - 2, Name: "\xc3\xa4", Rank: minus()}}, "\x01\x05" + top31 + "\x05\xfc" + top31[1:] + "\x06\x01\x02\xc3\xa4\x00\x01\x02\x00\x01\x80\x01"},
		{[]api.Row{{Child: 5, Name: "b", Rank: none()}, {Child: 6, Parent: 5, Name: "a"}, {Child: 9, Parent: 5, Name: "b", Rank: none()}}, "\x03\x03\x0a\x02\x06\x03\x00\x0a\x00\x0b\x02\x01b\x01a\x00\x01\x01\x01\x00\x01\x04\x00\x01\x01\x01\xff\xf0\x03\x00"},
	}
}

// P20.2: PutRows, and TakeRows of that, by hand.
func TestRows(t *testing.T) {
	for _, c := range trees() {
		if got := snap.PutRows(c.l); got != c.s || putRows(c.l) != c.s {
			t.Errorf("PutRows of %v: %q, not %q", c.l, got, c.s)
		}
		checkRows(t, c.s, c.l, api.OK)
	}
}

// some makes count rows that may be a tree, by chance: each node lies below Root, below one of a row ahead of it, or
// below one that has no row.
func some(next func() uint64, count int) []api.Row {
	var l []api.Row
	for i := range count {
		r := api.Row{Child: 3*i + 1 + int(next()%3)}
		switch next() % 4 {
		case 0:
			r.Parent = 3*count + 1 + int(next()%(1<<31-10000))
		case 1:
			if i > 0 {
				r.Parent = l[next()%uint64(i)].Child
			}
		}
		r.Name = []string{"", "a", "b", "a\xc3\xa4\xf0\x9f\x8c\xb3", strings.Repeat("x", 64), fmt.Sprint("n", i)}[next()%6]
		r.Rank = []float64{0, 0, minus(), 1, 2.5, none(), math.Inf(-1), math.Float64frombits(next())}[next()%8]
		l = append(l, r)
	}
	return l
}

// P20.2, P20.5: PutRows, and TakeRows of that, of rows by chance, up to as many as may be.
func TestRowsSome(t *testing.T) {
	next := numbers()
	for i := range 400 {
		count := i % 40
		if i > 396 {
			count = i + 1601
		}
		l := some(next, count)
		if !tree.May(l) {
			t.Fatalf("the test makes rows that may be no tree: %v", l)
		}
		s := putRows(l)
		if got := snap.PutRows(l); got != s {
			t.Fatalf("PutRows of %.300v: %.300q, not %.300q", l, got, s)
		}
		checkRows(t, s, l, api.OK)
	}
	checkRows(t, putRows(chain(2000)), chain(2000), api.OK)
}

// P20.2: rows that may be no tree: they are put, and not taken.
func TestRowsNone(t *testing.T) {
	sixtyFive := strings.Repeat("x", 65)
	turned := chain(2000)
	turned[0].Parent = 2000
	falling := chain(2000)
	falling[1999].Child = 1999
	for i, c := range []struct {
		l []api.Row
		e api.Errno
	}{
		// One of them may not be.
		{rows(0, 0), api.ErrForm}, {rows(-1, 0), api.ErrForm}, {rows(1<<31, 0), api.ErrForm}, {rows(1, -1), api.ErrForm}, {rows(1, 1<<31), api.ErrForm}, {rows(math.MaxInt, 0), api.ErrForm}, {rows(math.MinInt, 0), api.ErrForm}, {rows(1, math.MinInt), api.ErrForm}, {rows(1, math.MaxInt), api.ErrForm}, {rows(1, 0, 2, -1, 3, 0), api.ErrForm}, {rows(0, 1, 1, 0), api.ErrForm}, {rows(1, 0, 2, 0, 1<<31, 0), api.ErrForm}, {rows(1<<32+1, 0), api.ErrForm},
		{[]api.Row{{Child: 1, Name: "\xff"}}, api.ErrText}, {[]api.Row{{Child: 1, Name: sixtyFive}}, api.ErrBig}, {[]api.Row{{Child: 1}, {Child: 2, Name: "a"}, {Child: 3, Name: sixtyFive}}, api.ErrBig}, {[]api.Row{{Child: 1, Name: "\xff"}, {Child: 2, Name: sixtyFive}}, api.ErrText}, {[]api.Row{{Child: 1, Name: sixtyFive}, {Child: 2, Name: "\xff"}}, api.ErrBig},
		// A Name goes ahead of that a row may not be else, and that ahead of how they stand.
		{[]api.Row{{Child: 0, Name: "\xff"}}, api.ErrText}, {[]api.Row{{Child: -1}, {Child: 1, Name: sixtyFive}}, api.ErrBig}, {rows(2, 0, 1, -1), api.ErrForm}, {rows(2, 2, 0, 0), api.ErrForm}, {rows(2, 2, 3, -1), api.ErrForm}, {rows(1, 2, 2, 1, 3, 1<<31), api.ErrForm},
		// Their Children do not rise; that goes ahead of nodes that are above themselves.
		{rows(2, 0, 1, 0), api.ErrOrder}, {rows(2, 0, 2, 0), api.ErrOrder}, {rows(1, 0, 3, 0, 2, 0), api.ErrOrder}, {rows(1, 0, 2, 0, 1, 0), api.ErrOrder}, {rows(2, 2, 1, 0), api.ErrOrder}, {rows(2, 1, 1, 2), api.ErrOrder}, {rows(1, 1, 1, 1), api.ErrOrder}, {rows(1<<31-1, 0, 1, 0), api.ErrOrder}, {falling, api.ErrOrder},
		// Nodes are above themselves.
		{rows(1, 1), api.ErrCycle}, {rows(1, 2, 2, 1), api.ErrCycle}, {rows(1, 0, 2, 2), api.ErrCycle}, {rows(1, 3, 2, 1, 3, 2, 4, 0), api.ErrCycle}, {rows(1, 0, 4, 7, 5, 4, 7, 5), api.ErrCycle}, {turned, api.ErrCycle},
		// There are too many, whatever they are.
		{chain(2001), api.ErrBig}, {make([]api.Row, 2001), api.ErrBig}, {make([]api.Row, 5000), api.ErrBig},
	} {
		s := snap.PutRows(c.l)
		if s != putRows(c.l) {
			t.Errorf("case %d: PutRows of %.200v: %.200q", i, c.l, s)
		}
		if l, e := takeRows(s); len(l) > 0 || e != c.e {
			t.Errorf("case %d: the test tells %d", i, e)
		}
		checkRows(t, s, nil, c.e)
	}
}

// P20.2, R2: TakeRows of what is wrong, the first error ahead of all others.
func TestRowsWrong(t *testing.T) {
	const node, name, rank = "\x01\x02", "\x04\x01\x00\x00\x01", "\x01\x01"
	const under = "\x01\x00"
	for _, c := range []struct {
		s string
		e api.Errno
	}{
		// How many there are.
		{"", api.ErrCut}, {"\x80", api.ErrCut}, {"\x80\x00", api.ErrLong}, {over64, api.ErrLong}, {"\xd1\x0f", api.ErrBig}, {"\xd1\x0f\x80\x00", api.ErrBig}, {most63, api.ErrBig}, {over63, api.ErrBig}, {most64, api.ErrBig}, {"\x80\x80\x80\x80\x10" + node, api.ErrBig}, {"\xd0\x0f", api.ErrCut}, {"\xd0\x0f\x00", api.ErrCut},
		// Children.
		{"\x00", api.ErrCut}, {"\x01", api.ErrCut}, {"\x01\x80", api.ErrCut}, {"\x01\x81\x00\x02", api.ErrLong}, {"\x01\x02\x02", api.ErrCut}, {"\x01" + most64 + "\x02", api.ErrCut}, {"\x01\x00\x80\x00", api.ErrCut}, {"\x01\x01\x80\x80\x00", api.ErrCut}, {"\x01\x02\x80\x00\x80", api.ErrLong}, {"\x01\x02\x02\x00\x80", api.ErrForm}, {"\x00\x01\x00\x80", api.ErrForm}, {"\x02\x02\x02\x80\x80\x00", api.ErrCut}, {"\x02\x03\x02\x80\x00\x80", api.ErrLong}, {"\x02\x01\x02\x80\x00", api.ErrCut},
		// Parents.
		{"\x01" + node, api.ErrCut}, {"\x01" + node + "\x81\x00", api.ErrLong}, {"\x01" + node + "\x02\x00", api.ErrCut}, {"\x01" + node + "\x00\x80\x00", api.ErrCut}, {"\x01" + node + "\x01\x80\x80\x00", api.ErrCut}, {"\x01" + node + "\x02\x80\x00\x80", api.ErrLong}, {"\x01" + node + "\x02\x00\x00\x80", api.ErrForm}, {"\x00\x00\x01\x00\x80", api.ErrForm},
		// Names.
		{"\x01" + node + under, api.ErrCut}, {"\x01" + node + under + "\x84\x00\x01", api.ErrLong}, {"\x01" + node + under + "\x05\x01\x00\x00\x01", api.ErrCut}, {"\x01" + node + under + "\x00" + rank, api.ErrCut}, {"\x01" + node + under + "\x01\x80" + rank, api.ErrCut}, {"\x01" + node + under + "\x02\x80\x00" + rank, api.ErrLong}, {"\x01" + node + under + "\x01\x02\x80", api.ErrBig}, {"\x01" + node + under + "\x02\x01\x41\x80", api.ErrBig}, {"\x01" + node + under + "\x05\x01\x01\xff\x00\x01" + rank, api.ErrText}, {"\x01" + node + under + "\x01\x00\x80", api.ErrForm}, {"\x01" + node + under + "\x05\x01\x00\x00\x01\x80" + rank, api.ErrCut}, {"\x01" + node + under + "\x04\x01\x00\x01\x01\x80", api.ErrForm}, {"\x00\x00\x00\x00", api.ErrCut}, {"\x00\x00\x00\x02\x00\x00", api.ErrCut},
		// Ranks.
		{"\x01" + node + under + name, api.ErrCut}, {"\x01" + node + under + name + "\x80\x00", api.ErrLong}, {"\x01" + node + under + name + "\x02\x01", api.ErrCut}, {"\x01" + node + under + name + "\x00", api.ErrForm}, {"\x01" + node + under + name + "\x01\x02", api.ErrForm}, {"\x01" + node + under + name + "\x02\x00\x01", api.ErrCut}, {"\x01" + node + under + name + "\x02\x00\x01\x80\x00", api.ErrLong}, {"\x01" + node + under + name + "\x02\x00\x01\x00", api.ErrForm}, {"\x01" + node + under + name + "\x02\x00\x01\xff\xf1\x03", api.ErrForm}, {"\x01" + node + under + name + rank + "\x00", api.ErrForm}, {"\x00\x00\x00\x01\x00\x00\x00", api.ErrForm}, {"\x00\x00\x00\x01\x00", api.ErrCut},
		// All these go ahead of rows that may not be, and of those that are no tree.
		{"\x01\x01\x00" + under + name + rank, api.ErrForm}, {"\x01\x01\x00" + under + name, api.ErrCut}, {"\x01\x01\x00" + under + name + "\x80\x00", api.ErrLong}, {"\x01\x01\x00\x81\x00", api.ErrLong}, {"\x01\x01\x00" + under + "\x01\x02", api.ErrBig}, {"\x01" + node + node + name + rank, api.ErrCycle}, {"\x01" + node + node + name, api.ErrCut}, {"\x02\x02\x04\x01\x02\x00\x00\x04\x01\x00\x00\x02\x01\x02", api.ErrOrder}, {"\x02\x02\x04\x01\x02\x00\x00\x04\x01\x00\x00\x02\x80", api.ErrCut}, {"\x02\x02\x04\x00\x02\x00\x00\x04\x01\x00\x00\x02\x01\x02", api.ErrOrder}, {"\x02\x02\x04\x01\x02\x04\x01\x04\x01\x00\x00\x02\x01\x02", api.ErrOrder}, {"\x02\x02\x04\x03\x02\x04\x01\x04\x01\x00\x00\x02\x01\x02", api.ErrForm},
	} {
		if l, e := takeRows(c.s); len(l) > 0 || e != c.e {
			t.Errorf("the test tells %d of %q", e, c.s)
		}
		checkRows(t, c.s, nil, c.e)
	}
}

// P20.2, P20.5: TakeRows of texts that are nearly rows', and of many short ones: each is none, or just one's.
func TestRowsAll(t *testing.T) {
	var all []string
	for _, s := range texts(4, "\x00\x01\x02\x03\x80") {
		all = append(all, s, "\x00\x00\x00"+s, "\x01\x01"+s+"\x01\x01", "\x01\x01\x02\x01"+s, "\x01\x01\x02\x01\x00\x04"+s+"\x01\x01", "\x01\x01\x02\x01\x00\x04\x01\x00\x00\x01"+s, "\x02\x02\x02\x02"+s+"\x04\x01\x00\x00\x02\x01\x02", "\x02"+s+"\x02\x00\x00\x04\x01\x00\x00\x02\x01\x02")
	}
	next := numbers()
	for _, c := range trees() {
		all = append(all, near(c.s, "\x00\x01\x02\x03\x05\x40a\x80\xc3\xff")...)
	}
	for i := range 10 {
		all = append(all, near(putRows(some(next, i+2)), "\x00\x01\x02\x03\x05\x40a\x80\xc3\xff")...)
	}
	good := 0
	told := map[api.Errno]int{}
	for _, s := range all {
		l, e := takeRows(s)
		checkRows(t, s, l, e)
		told[e]++
		if e == api.OK {
			good++
			if got := snap.PutRows(l); got != s {
				t.Errorf("%q is %v, of which PutRows is %q", s, l, got)
			}
		}
	}
	if good < 500 {
		t.Errorf("no more than %d texts are rows'", good)
	}
	for _, e := range []api.Errno{api.ErrCut, api.ErrLong, api.ErrText, api.ErrForm, api.ErrBig, api.ErrCycle, api.ErrOrder} {
		if told[e] < 10 {
			t.Errorf("%d told %d times", e, told[e])
		}
	}
}

// of makes a replica that was settled, without a Log.
func of(base []api.Row, counter int, replica int, v []api.Mark) api.Replica {
	return api.Replica{Base: base, Floor: api.Time{Counter: counter, Replica: replica}, Marks: v}
}

// checkEncode holds what Encode tells of r against bodies, and what Decode tells of these against r without its Log.
func checkEncode(t *testing.T, r api.Replica, b [3]string) {
	t.Helper()
	c, e := snap.Encode(r)
	if !slices.Equal(c, chunks(b)) || e != api.OK {
		t.Errorf("Encode of %.300v: %s, %d, not %.300q", r, show(c), e, b)
	}
	r.Log = nil
	if got, e := snap.Decode(chunks(b)); !floor.Same(got, r) || got.Log != nil || e != api.OK {
		t.Errorf("Decode of %.300q: %.300v, %d, not %.300v", b, got, e, r)
	}
}

// P20.3, P20.4: Encode, and Decode of that, by hand: a Log is not looked at, nor whether the Floor is known.
func TestKnown(t *testing.T) {
	settled := of(rows(1, 2, 2, 0), 300, 2, list(1, 7, 2, 300))
	bodies := [3]string{"\xac\x02\x02", "\x02\x02\x02\x02\x02\x04\x03\x04\x01\x00\x00\x02\x01\x02", "\x02\x02\x02\x02\x0e\xca\x04"}
	checkEncode(t, settled, bodies)
	for _, log := range [][]api.Move{{}, {{}}, {{Time: api.Time{Counter: 1, Replica: 1}, Child: 1}}, {{Time: api.Time{Counter: 301, Replica: 2}, Child: 1, Name: "\xff"}, {}}, make([]api.Move, 2001)} {
		with := settled
		with.Log = log
		checkEncode(t, with, bodies)
	}
	const bare, unseen = "\x00\x00\x00\x01\x00\x00", "\x00\x00"
	checkEncode(t, api.Replica{}, [3]string{"\x00\x00", bare, unseen})
	checkEncode(t, of([]api.Row{}, 0, 0, []api.Mark{}), [3]string{"\x00\x00", bare, unseen})
	checkEncode(t, of(nil, 1, 0, nil), [3]string{"\x01\x00", bare, unseen})
	checkEncode(t, of(nil, 0, 1, nil), [3]string{"\x00\x01", bare, unseen})
	checkEncode(t, of(nil, 7, 256, nil), [3]string{"\x07\x80\x02", bare, unseen})
	checkEncode(t, of(nil, top, 255, nil), [3]string{"\xff\xff\xff\xff\xff\xff\xff\xff\x3f\xff\x01", bare, unseen})
	checkEncode(t, of(nil, top+1, 1, nil), [3]string{"\x80\x80\x80\x80\x80\x80\x80\x80\x40\x01", bare, unseen})
	checkEncode(t, of(nil, math.MaxInt, math.MaxInt, nil), [3]string{most63 + most63, bare, unseen})
	checkEncode(t, of(nil, 0, 0, list(2, 5)), [3]string{"\x00\x00", bare, "\x01\x01\x04\x0a"})
	for _, c := range trees() {
		checkEncode(t, of(c.l, 5, 1, nil), [3]string{"\x05\x01", c.s, unseen})
	}
}

// P20.3, P20.5: Encode, and Decode of that, of what is settled by chance, and of as much as may be.
func TestSome(t *testing.T) {
	next := numbers()
	for i := range 100 {
		var v []api.Mark
		for k := range next() % 6 {
			v = append(v, api.Mark{Replica: int(k*40 + next()%40 + 1), Counter: int(next()%top) + 1})
		}
		r := of(some(next, i%30), int(next()>>(1+next()%63)), int(next()%300), v)
		checkEncode(t, r, [3]string{pack.Put(uint64(r.Floor.Counter)) + pack.Put(uint64(r.Floor.Replica)), putRows(r.Base), putMarks(v)})
	}
	checkEncode(t, of(chain(2000), 5, 9, all(255)), [3]string{"\x05\x09", putRows(chain(2000)), putMarks(all(255))})
}

// P20.3: Encode of what may not be, whatever else is right.
func TestEncodeWrong(t *testing.T) {
	good := func() api.Replica { return of(rows(1, 0, 2, 1), 5, 1, list(1, 5)) }
	if _, e := snap.Encode(good()); e != api.OK {
		t.Errorf("Encode of what may be: %d", e)
	}
	var wrong []api.Replica
	but := func(change func(r *api.Replica)) {
		r := good()
		change(&r)
		wrong = append(wrong, r)
	}
	for _, l := range [][]api.Row{rows(0, 0), rows(1, -1), rows(1, 1), rows(1, 2, 2, 1), rows(2, 0, 1, 0), rows(1, 0, 1, 0), rows(1<<31, 0), rows(1, 1<<31), {{Child: 1, Name: "\xff"}}, {{Child: 1, Name: strings.Repeat("x", 65)}}, chain(2001)} {
		but(func(r *api.Replica) { r.Base = l })
	}
	for _, v := range [][]api.Mark{list(0, 1), list(256, 1), list(1, 0), list(1, -1), list(1, top+1), list(2, 1, 1, 1), list(1, 1, 1, 1), {{}}, all(256)} {
		but(func(r *api.Replica) { r.Marks = v })
	}
	for _, n := range []int{-1, math.MinInt} {
		but(func(r *api.Replica) { r.Floor.Counter = n })
		but(func(r *api.Replica) { r.Floor.Replica = n })
	}
	for _, r := range wrong {
		if c, e := snap.Encode(r); len(c) != 0 || e != api.ErrArg {
			t.Errorf("Encode of %.200v: %s, %d", r, show(c), e)
		}
	}
}

// checkDecode holds what Decode tells against r and e.
func checkDecode(t *testing.T, l []api.Chunk, r api.Replica, e api.Errno) {
	t.Helper()
	if got, err := snap.Decode(l); !floor.Same(got, r) || err != e {
		t.Errorf("Decode of %s: %.300v, %d, not %.300v, %d", show(l), got, err, r, e)
	}
}

// P20.4: chunks of which there are more, or fewer, or that are of other kinds, or in another order, whatever they hold.
func TestKinds(t *testing.T) {
	l := chunks([3]string{"\x05\x01", "\x01\x01\x02\x01\x00\x04\x01\x00\x00\x01\x01\x01", "\x01\x01\x02\x0a"})
	checkDecode(t, l, of(rows(1, 0), 5, 1, list(1, 5)), api.OK)
	spoilt := [][]api.Chunk{nil, {}, {{}}, make([]api.Chunk, 3), slices.Concat(l, l), append(slices.Clone(l), api.Chunk{}), append(slices.Clone(l), api.Chunk{Kind: 4}), append([]api.Chunk{{Kind: 1}}, l...), append(slices.Clone(l), l[2]), {l[1], l[2], l[0]}, {l[2], l[0], l[1]}, {l[2], l[1], l[0]}, {l[0], l[2], l[1]}, {l[1], l[0], l[2]}, {l[0], l[0], l[0]}}
	for i := range l {
		spoilt = append(spoilt, slices.Delete(slices.Clone(l), i, i+1), slices.Insert(slices.Clone(l), i, l[i]))
		for _, kind := range []int{0, -1, 1, 2, 3, 4, 257 + i, math.MaxInt, math.MinInt, 1<<32 + 1 + i} {
			if kind != i+1 {
				other := slices.Clone(l)
				other[i].Kind = kind
				empty := slices.Clone(other)
				for k := range empty {
					empty[k].Body = ""
				}
				spoilt = append(spoilt, other, empty)
			}
		}
	}
	for _, other := range spoilt {
		checkDecode(t, other, api.Replica{}, api.ErrForm)
	}
}

// P20.4, R2, R3: bodies that are wrong in some way, all of them together: the first error goes ahead of all others.
func TestDecodeFirst(t *testing.T) {
	type way struct {
		body string
		e    api.Errno
	}
	heads := []way{
		{"\x05\x01", api.OK}, {"\x00\x00", api.OK}, {most63 + most63, api.OK}, {"\x00\x09", api.OK},
		{"", api.ErrCut}, {"\x05", api.ErrCut}, {"\x85", api.ErrCut}, {"\x05\x81", api.ErrCut}, {"\x85\x00\x01", api.ErrLong}, {"\x05\x81\x00", api.ErrLong}, {"\x85\x00", api.ErrLong}, {over64 + "\x01", api.ErrLong}, {"\x05" + over64, api.ErrLong}, {"\x05\x01\x00", api.ErrForm}, {"\x05\x01\x80", api.ErrForm},
		{over63 + "\x01", api.ErrForm}, {"\x05" + over63, api.ErrForm}, {most64 + "\x01", api.ErrForm}, {"\x05" + most64, api.ErrForm}, {over63 + over63, api.ErrForm}, {"\x05\x81" + over63[1:], api.ErrForm}, {over63, api.ErrCut}, {over63 + "\x81\x00", api.ErrLong}, {most64 + "\x80", api.ErrCut},
	}
	trunks := []way{
		{"\x01\x01\x02\x01\x00\x04\x01\x00\x00\x01\x01\x01", api.OK}, {"\x00\x00\x00\x01\x00\x00", api.OK},
		{"", api.ErrCut}, {"\x80\x00", api.ErrLong}, {"\xd1\x0f", api.ErrBig}, {"\x01\x01\x02\x01\x00\x05\x01\x01\xff\x00\x01\x01\x01", api.ErrText}, {"\x01\x01\x00\x01\x00\x04\x01\x00\x00\x01\x01\x01", api.ErrForm}, {"\x02\x02\x04\x00\x02\x00\x00\x04\x01\x00\x00\x02\x01\x02", api.ErrOrder}, {"\x01\x01\x02\x01\x02\x04\x01\x00\x00\x01\x01\x01", api.ErrCycle},
	}
	seens := []way{
		{"\x01\x01\x02\x0a", api.OK}, {"\x00\x00", api.OK},
		{"", api.ErrCut}, {"\x80\x00", api.ErrLong}, {"\x80\x02", api.ErrBig}, {"\x01\x01\x00\x02", api.ErrForm}, {"\x00\x00\x00", api.ErrForm},
	}
	for _, head := range heads {
		for _, trunk := range trunks {
			for _, seen := range seens {
				l := chunks([3]string{head.body, trunk.body, seen.body})
				want, e := decode(l)
				first := head.e
				if first == api.OK {
					first = trunk.e
				}
				if first == api.OK {
					first = seen.e
				}
				if e != first {
					t.Errorf("the test tells %d of %s", e, show(l))
				}
				checkDecode(t, l, want, first)
			}
		}
	}
}

// P20.4, P20.5: bodies of what is settled, spoilt at one place each: they are nothing's, or just something else's, which
// has these bodies.
func TestDecodeSpoilt(t *testing.T) {
	next := numbers()
	good := 0
	for i := range 8 {
		r := of(some(next, i), int(next()>>(1+next()%63)), int(next()%300), list(1, int(next()%500)+1, 200, int(next()%top)+1))
		whole, e := snap.Encode(r)
		if e != api.OK {
			t.Fatalf("Encode of %v: %d", r, e)
		}
		for k := range whole {
			for _, body := range near(whole[k].Body, "\x00\x01\x02\x03\x05\x40a\x80\xc3\xff") {
				l := slices.Clone(whole)
				l[k].Body = body
				want, e := decode(l)
				checkDecode(t, l, want, e)
				if e == api.OK && body != whole[k].Body {
					good++
					if again, e := snap.Encode(want); !slices.Equal(again, l) || e != api.OK {
						t.Errorf("%s is %v, of which Encode is %s, %d", show(l), want, show(again), e)
					}
				}
			}
		}
	}
	if good < 500 {
		t.Errorf("no more than %d spoilt ones are something's", good)
	}
}

// R5: what is handed in stays as it was, and what is answered is not changed by what comes then.
func TestApart(t *testing.T) {
	next := numbers()
	base, v := some(next, 20), list(1, 5, 9, 7)
	wasBase, wasV := slices.Clone(base), slices.Clone(v)
	was := of(wasBase, 7, 9, wasV)
	r := of(base, 7, 9, v)
	first, _ := snap.Encode(r)
	kept := slices.Clone(first)
	back, _ := snap.Decode(first)
	if !floor.Same(r, was) || !slices.Equal(first, kept) {
		t.Error("what was handed in is changed")
	}
	clear(base)
	clear(v)
	second, _ := snap.Encode(of(some(next, 5), 1, 1, list(3, 3)))
	snap.Decode(second)
	other, _ := snap.Decode(first)
	clear(other.Base)
	clear(other.Marks)
	again, _ := snap.Decode(first)
	if !slices.Equal(first, kept) || !floor.Same(back, was) || !floor.Same(again, was) {
		t.Error("what was answered is changed")
	}
}

// R6: what was called ahead is of no moment, be it an error.
func TestAgain(t *testing.T) {
	r := of(rows(1, 0), 5, 1, list(1, 5))
	bodies := [3]string{"\x05\x01", "\x01\x01\x02\x01\x00\x04\x01\x00\x00\x01\x01\x01", "\x01\x01\x02\x0a"}
	for range 20 {
		checkEncode(t, r, bodies)
		checkMarks(t, "\x01\x01\x04\x0a", list(2, 5), api.OK)
		checkMarks(t, "\x01\x80", nil, api.ErrCut)
		checkRows(t, bodies[1], rows(1, 0), api.OK)
		checkRows(t, "\x80\x00", nil, api.ErrLong)
		checkDecode(t, chunks([3]string{bodies[0], bodies[1], "\x80\x02"}), api.Replica{}, api.ErrBig)
		if _, e := snap.Encode(of(rows(1, 1), 0, 0, nil)); e != api.ErrArg {
			t.Errorf("Encode: %d", e)
		}
	}
}
