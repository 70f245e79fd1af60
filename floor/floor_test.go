package floor_test

import (
	"fmt"
	"math"
	"slices"
	"strings"
	"testing"

	"bonsai/api"
	"bonsai/floor"
	"bonsai/fold"
	"bonsai/marks"
	"bonsai/moves"
	"bonsai/tree"
)

const top = 1<<62 - 1

// numbers goes without an end by numbers that look like chance, and are the same each time.
func numbers() func() uint64 {
	u := uint64(0x9e3779b97f4a7c15)
	return func() uint64 {
		u = u*6364136223846793005 + 1442695040888963407
		return u ^ u>>29
	}
}

// at tells a Time.
func at(counter int, replica int) api.Time {
	return api.Time{Counter: counter, Replica: replica}
}

// move makes one of a Counter and a Replica that lays child below parent.
func move(counter int, replica int, child int, parent int) api.Move {
	return api.Move{Time: at(counter, replica), Child: child, Parent: parent, Name: fmt.Sprint("m", counter), Rank: float64(replica)}
}

// rows makes rows of Children and Parents, one behind the other, each with a Name of its own.
func rows(nodes ...int) []api.Row {
	var l []api.Row
	for i := 0; i < len(nodes); i += 2 {
		l = append(l, api.Row{Child: nodes[i], Parent: nodes[i+1], Name: fmt.Sprint("n", i/2), Rank: float64(i)})
	}
	return l
}

// list makes marks of Replicas and Counters, one behind the other.
func list(numbers ...int) []api.Mark {
	var v []api.Mark
	for i := 0; i < len(numbers); i += 2 {
		v = append(v, api.Mark{Replica: numbers[i], Counter: numbers[i+1]})
	}
	return v
}

// chain tells count rows, each node below the one ahead of it.
func chain(count int) []api.Row {
	l := make([]api.Row, count)
	for i := range l {
		l[i] = api.Row{Child: i + 1, Parent: i}
	}
	return l
}

// many tells count moves of replica 1 from a Counter on, each of which lays the same node anew.
func many(count int, from int, child int) []api.Move {
	l := make([]api.Move, count)
	for i := range l {
		l[i] = move(from+i, 1, child, 0)
	}
	return l
}

// of tells a replica of moves that were not settled.
func of(base []api.Row, log ...api.Move) api.Replica {
	return api.Replica{Base: base, Log: log, Marks: marks.Of(log)}
}

// middle is a replica that has something of all: 1 below Root and 2 below 1, settled up to 3 of 2, and two moves since.
func middle() api.Replica {
	return api.Replica{Base: rows(1, 0, 2, 1), Floor: at(3, 2), Log: []api.Move{move(3, 4, 3, 2), move(5, 1, 1, 3)}, Marks: list(1, 5, 2, 3, 4, 7)}
}

// but tells middle with something changed.
func but(change func(r *api.Replica)) api.Replica {
	r := middle()
	change(&r)
	return r
}

// copied tells r in memory of its own.
func copied(r api.Replica) api.Replica {
	r.Base, r.Log, r.Marks = slices.Clone(r.Base), slices.Clone(r.Log), slices.Clone(r.Marks)
	return r
}

// before tells by the document's words whether a is ahead of b.
func before(a api.Time, b api.Time) bool {
	return a.Counter < b.Counter || a.Counter == b.Counter && a.Replica < b.Replica
}

// settled tells by the document's words whether those marks let a replica settle up to t.
func settled(v []api.Mark, t api.Time) bool {
	return t.Counter >= 1 && t.Counter <= top && t.Replica >= 1 && t.Replica <= 255 && t.Counter <= marks.Get(v, t.Replica)
}

// may tells by the document's words whether r may be.
func may(r api.Replica) bool {
	var children []int
	for _, x := range r.Base {
		children = append(children, x.Child)
	}
	for _, m := range r.Log {
		if !before(r.Floor, m.Time) || m.Time.Counter > marks.Get(r.Marks, m.Time.Replica) {
			return false
		}
		children = append(children, m.Child)
	}
	slices.Sort(children)
	if !tree.May(r.Base) || !moves.May(r.Log) || !marks.May(r.Marks) || len(slices.Compact(children)) > 2000 {
		return false
	}
	return r.Floor.Counter == 0 && r.Floor.Replica == 0 || settled(r.Marks, r.Floor)
}

// same tells by the document's words whether a and b are the same, field by field.
func same(a api.Replica, b api.Replica) bool {
	return tree.Same(a.Base, b.Base) && a.Floor.Counter == b.Floor.Counter && a.Floor.Replica == b.Floor.Replica && moves.Same(a.Log, b.Log) && slices.Equal(a.Marks, b.Marks)
}

// wrong are replicas that may not be.
func wrong() []api.Replica {
	l := []api.Replica{
		// The Base may be no tree.
		{Base: []api.Row{{}}}, {Base: rows(1, 1)}, {Base: rows(1, 2, 2, 1)}, {Base: rows(2, 0, 1, 0)}, {Base: rows(1, 0, 1, 0)}, {Base: []api.Row{{Child: 1, Name: "\xff"}}}, {Base: chain(2001)}, {Base: []api.Row{{Child: 1 << 31}}},
		// The Log may be no moves.
		of(nil, api.Move{}), of(nil, move(1, 1, 0, 1)), of(nil, move(1, 1, 1, -1)), of(nil, move(1, 0, 1, 0)), of(nil, move(0, 1, 1, 0)), of(nil, move(1, 256, 1, 0)), of(nil, move(top+1, 1, 1, 0)), of(nil, move(2, 1, 1, 0), move(1, 1, 1, 0)), of(nil, move(1, 1, 1, 0), move(1, 1, 1, 0)), of(nil, many(2001, 1, 1)...),
		{Log: []api.Move{{Time: at(1, 1), Child: 1, Name: strings.Repeat("a", 65)}}, Marks: list(1, 1)},
		// The Marks may not be.
		{Marks: list(1, 0)}, {Marks: list(0, 1)}, {Marks: list(256, 1)}, {Marks: list(1, top+1)}, {Marks: list(2, 1, 1, 1)}, {Marks: list(1, 1, 1, 1)}, {Marks: []api.Mark{{}}},
		// The Floor is no Time, or is not known.
		{Floor: at(1, 1)}, {Floor: at(0, 1), Marks: list(1, 5)}, {Floor: at(1, 0), Marks: list(1, 5)}, {Floor: at(-1, 1), Marks: list(1, 5)}, {Floor: at(6, 1), Marks: list(1, 5)}, {Floor: at(1, 2), Marks: list(1, 5)}, {Floor: at(5, 256), Marks: list(1, 5)}, {Floor: at(5, -1), Marks: list(1, 5)}, {Floor: at(-1, -1), Marks: list(1, 5)}, {Floor: at(0, -1)}, {Floor: at(-1, 0)}, {Floor: at(0, 256)}, {Floor: at(top+1, 1), Marks: list(1, top)}, {Floor: at(math.MinInt, math.MinInt)}, {Floor: at(3, 1), Marks: list(1, 2, 2, 5)},
		{Floor: at(top+1, 1), Marks: list(1, top+1)}, {Floor: at(5, 300), Marks: list(300, 5)}, {Floor: at(5, 0), Marks: list(0, 5)}, {Floor: at(-5, 1), Marks: list(1, -5)},
		// The Floor is not before a move.
		{Floor: at(5, 1), Log: []api.Move{move(5, 1, 1, 0)}, Marks: list(1, 5)}, {Floor: at(5, 2), Log: []api.Move{move(5, 1, 1, 0)}, Marks: list(1, 5, 2, 5)}, {Floor: at(5, 1), Log: []api.Move{move(4, 2, 1, 0)}, Marks: list(1, 5, 2, 4)}, {Floor: at(5, 1), Log: []api.Move{move(4, 2, 1, 0), move(6, 2, 1, 0)}, Marks: list(1, 5, 2, 6)}, {Floor: at(5, 1), Log: []api.Move{move(4, 2, 1, 0), move(5, 1, 1, 0), move(6, 2, 1, 0)}, Marks: list(1, 5, 2, 6)},
		// A move is not known.
		{Log: []api.Move{move(1, 1, 1, 0)}}, {Log: []api.Move{move(6, 1, 1, 0)}, Marks: list(1, 5)}, {Log: []api.Move{move(1, 2, 1, 0)}, Marks: list(1, 5)}, {Log: []api.Move{move(4, 2, 1, 0), move(5, 1, 1, 0), move(6, 3, 1, 0)}, Marks: list(1, 5, 2, 3, 3, 6)},
		// There are too many Children.
		of(chain(2000), move(1, 1, 2001, 0)), of(chain(2000), move(1, 1, 1, 0), move(2, 1, 2001, 2001)), of(chain(1999), move(1, 1, 2000, 0), move(2, 1, 2001, 0)),
		// One thing of middle.
		but(func(r *api.Replica) { r.Base[0].Child = 2 }), but(func(r *api.Replica) { r.Base[0].Parent = 2 }), but(func(r *api.Replica) { r.Base = rows(2, 1, 1, 0) }), but(func(r *api.Replica) { r.Floor = at(4, 2) }), but(func(r *api.Replica) { r.Floor = at(3, 3) }), but(func(r *api.Replica) { r.Floor = at(3, 4) }), but(func(r *api.Replica) { r.Floor = at(5, 1) }), but(func(r *api.Replica) { r.Log[0].Time = at(3, 1) }), but(func(r *api.Replica) { r.Log[0].Child = 0 }), but(func(r *api.Replica) { r.Log[1].Time.Counter = 6 }), but(func(r *api.Replica) { r.Log[1].Time.Replica = 3 }), but(func(r *api.Replica) { r.Marks[0].Counter = 4 }), but(func(r *api.Replica) { r.Marks[1].Counter = 2 }), but(func(r *api.Replica) { r.Marks = r.Marks[:2] }), but(func(r *api.Replica) { r.Marks = list(1, 5, 3, 3, 4, 7) }), but(func(r *api.Replica) { r.Marks = nil }),
	}
	// Children of moves alone.
	var log []api.Move
	for i := range 2000 {
		log = append(log, move(i+1, 1, i+1, 0))
	}
	return append(l, of(rows(2001, 0), log...), of(rows(5, 0, 9999, 0), log...))
}

// right are replicas that may be.
func right() []api.Replica {
	l := []api.Replica{
		{}, {Base: []api.Row{}, Log: []api.Move{}, Marks: []api.Mark{}}, {Marks: list(1, 5)}, {Base: rows(1, 0)}, {Base: rows(1, 5)}, {Base: chain(2000), Marks: list(255, top)}, {Floor: at(5, 1), Marks: list(1, 5)}, {Floor: at(4, 1), Marks: list(1, 5)}, {Floor: at(1, 1), Marks: list(1, 5)}, {Floor: at(top, 255), Marks: list(255, top)}, {Floor: at(3, 2), Marks: list(1, 2, 2, 5)},
		of(nil, move(1, 1, 1, 0)), of(nil, move(1, 1, 1, 1)), of(nil, move(top, 255, 1, 0)), of(nil, move(1, 1, 1, 2), move(1, 2, 2, 1)), of(nil, many(2000, 1, 1)...), of(nil, many(2000, top-1999, 1)...),
		{Floor: at(4, 1), Log: []api.Move{move(5, 1, 1, 0)}, Marks: list(1, 5)}, {Floor: at(5, 1), Log: []api.Move{move(5, 2, 1, 0)}, Marks: list(1, 5, 2, 5)}, {Floor: at(5, 255), Log: []api.Move{move(6, 1, 1, 0)}, Marks: list(1, 6, 255, 5)}, {Log: []api.Move{move(4, 1, 1, 0)}, Marks: list(1, 5, 9, 9)},
		// Each Child counts once; a Parent does not count.
		of(chain(2000), many(2000, 1, 2000)...), of(chain(1999), move(1, 1, 2000, 0), move(2, 1, 2000, 1), move(3, 1, 1, 1)), of(chain(2000), move(1, 1, 7, 9999)), of(append(chain(1999), api.Row{Child: 2000, Parent: 7777}), move(1, 1, 2000, 5555)),
		middle(), but(func(r *api.Replica) { r.Floor = api.Time{} }), but(func(r *api.Replica) { r.Floor = at(3, 1) }), but(func(r *api.Replica) { r.Floor = at(2, 4) }), but(func(r *api.Replica) { r.Base = nil }), but(func(r *api.Replica) { r.Log = nil }), but(func(r *api.Replica) { r.Log = r.Log[1:] }), but(func(r *api.Replica) { r.Floor, r.Log = at(7, 4), nil }),
	}
	var log []api.Move
	for i := range 2000 {
		log = append(log, move(i+1, 1, i+1, i))
	}
	return append(l, of(nil, log...), of(chain(2000), log...), of(rows(2000, 0), log...))
}

// P18.1: May.
func TestMay(t *testing.T) {
	for i, r := range wrong() {
		if floor.May(r) || may(r) {
			t.Errorf("wrong %d: May of %.300v", i, r)
		}
	}
	for i, r := range right() {
		if !floor.May(r) || !may(r) {
			t.Errorf("right %d: not May of %.300v", i, r)
		}
	}
}

// P18.1: May of all replicas of few Floors, Logs and Marks.
func TestMayAll(t *testing.T) {
	var times []api.Time
	for counter := -1; counter <= 3; counter++ {
		for replica := -1; replica <= 3; replica++ {
			times = append(times, at(counter, replica))
		}
	}
	yes, no := 0, 0
	for _, begin := range times {
		for one := range 26 {
			for two := range 26 {
				for known := range 27 {
					var log []api.Move
					for i, n := range []int{one, two} {
						if n < 25 {
							log = append(log, api.Move{Time: times[n], Child: i + 1})
						}
					}
					var v []api.Mark
					for i, counter := range []int{known % 3, known / 3 % 3, known / 9} {
						v = marks.Raise(v, at(counter, i+1))
					}
					r := api.Replica{Floor: begin, Log: log, Marks: v}
					want := may(r)
					if got := floor.May(r); got != want {
						t.Fatalf("May of %v: %v", r, got)
					}
					if want {
						yes++
					} else {
						no++
					}
				}
			}
		}
	}
	if yes < 500 || no < 5000 {
		t.Errorf("%d may be, %d may not", yes, no)
	}
}

// P18.1: Tree, also of what may not be.
func TestTree(t *testing.T) {
	for _, c := range []struct {
		r    api.Replica
		want []api.Row
	}{
		{api.Replica{}, nil}, {api.Replica{Marks: list(1, 5), Floor: at(1, 1)}, nil}, {api.Replica{Base: rows(1, 0, 2, 1)}, rows(1, 0, 2, 1)}, {of(nil, move(1, 1, 1, 0)), []api.Row{{Child: 1, Name: "m1", Rank: 1}}}, {of(nil, move(1, 1, 1, 1)), nil},
		{middle(), []api.Row{rows(1, 0)[0], rows(0, 0, 2, 1)[1], {Child: 3, Parent: 2, Name: "m3", Rank: 4}}},
		{of(rows(1, 0, 2, 1), move(1, 1, 1, 2), move(2, 1, 2, 0), move(3, 1, 1, 2)), []api.Row{{Child: 1, Parent: 2, Name: "m3", Rank: 1}, {Child: 2, Name: "m2", Rank: 1}}},
		// Moves are done in the order in which they stand.
		{of(nil, move(2, 1, 1, 5), move(1, 1, 1, 6)), []api.Row{{Child: 1, Parent: 6, Name: "m1", Rank: 1}}}, {api.Replica{Base: rows(3, 3, 1, 0), Log: []api.Move{move(0, 0, -1, 3)}}, []api.Row{{Child: -1, Parent: 3, Name: "m0"}, rows(3, 3)[0], rows(0, 0, 1, 0)[1]}},
	} {
		if got := floor.Tree(c.r); !tree.Same(got, c.want) {
			t.Errorf("Tree of %v: %v, not %v", c.r, got, c.want)
		}
	}
	for i, r := range append(right(), wrong()...) {
		if len(r.Base)+len(r.Log) > 100 {
			continue
		}
		if got, want := floor.Tree(r), fold.All(r.Base, r.Log); !tree.Same(got, want) {
			t.Errorf("Tree of replica %d: %v, not %v", i, got, want)
		}
	}
}

// P18.1: Same.
func TestSame(t *testing.T) {
	l := []api.Replica{
		{}, middle(), {Floor: at(1, 0)}, {Floor: at(0, 1)}, {Floor: at(1, 1)}, {Marks: list(1, 1)}, {Marks: list(1, 2)}, {Marks: list(2, 1)}, {Marks: list(1, 1, 2, 1)}, {Marks: list(2, 1, 1, 1)}, {Base: rows(1, 0)}, {Base: rows(1, 0, 2, 0)}, {Base: rows(1, 2)}, {Base: []api.Row{{Child: 1}}}, {Base: []api.Row{{Child: 1, Rank: math.Copysign(0, -1)}}}, {Base: []api.Row{{Child: 1, Rank: math.NaN()}}}, {Log: []api.Move{{}}}, {Log: []api.Move{{}, {}}}, {Log: []api.Move{{Time: at(1, 0)}}}, {Log: []api.Move{{Rank: math.NaN()}}}, {Log: []api.Move{{Rank: math.Copysign(0, -1)}}}, {Log: []api.Move{{Name: "a"}}},
		but(func(r *api.Replica) { r.Base[1].Name = "other" }), but(func(r *api.Replica) { r.Base = r.Base[:1] }), but(func(r *api.Replica) { r.Floor.Counter = 2 }), but(func(r *api.Replica) { r.Floor.Replica = 1 }), but(func(r *api.Replica) { r.Log[1].Parent = 0 }), but(func(r *api.Replica) { r.Log[0].Time.Replica = 5 }), but(func(r *api.Replica) { r.Log = r.Log[:1] }), but(func(r *api.Replica) { r.Marks[2].Counter = 8 }), but(func(r *api.Replica) { r.Marks[2].Replica = 5 }), but(func(r *api.Replica) { r.Marks = r.Marks[1:] }),
	}
	for i, a := range l {
		for k, b := range l {
			if got := floor.Same(a, copied(b)); got != (i == k) {
				t.Errorf("Same of %v, %v: %v", a, b, got)
			}
		}
	}
	// A list may be nil where it is empty; all that is no number is one.
	if !floor.Same(api.Replica{}, api.Replica{Base: []api.Row{}, Log: []api.Move{}, Marks: []api.Mark{}}) {
		t.Error("not Same: nothing, and lists without elements")
	}
	one, two := api.Replica{Base: []api.Row{{Rank: math.NaN()}}}, api.Replica{Base: []api.Row{{Rank: math.Float64frombits(0xfff8000000000123)}}}
	if !floor.Same(one, two) {
		t.Error("not Same: two of no number")
	}
}

// deed is an Add, or a Prune (of which the move tells the Time alone), and what is told of it.
type deed struct {
	m     api.Move
	prune bool
	fresh bool
	e     api.Errno
	log   []api.Time
	marks []api.Mark
	nodes []int
}

// play does deeds, one behind the other, and tells a fault where one tells something else.
func play(t *testing.T, deeds []deed) {
	t.Helper()
	var r api.Replica
	for i, d := range deeds {
		was, want := copied(r), r
		var next api.Replica
		var fresh bool
		var e api.Errno
		if d.prune {
			next, e = floor.Prune(r, d.m.Time)
		} else {
			next, fresh, e = floor.Add(r, d.m)
		}
		if fresh != d.fresh || e != d.e || !same(r, was) {
			t.Fatalf("deed %d of %v: %v, %v, %d", i, was, next, fresh, e)
		}
		if e != api.OK || !d.prune && !fresh {
			if !same(next, want) {
				t.Fatalf("deed %d changes %v: %v", i, was, next)
			}
			continue
		}
		var log []api.Time
		for _, m := range next.Log {
			log = append(log, m.Time)
		}
		var nodes []int
		for _, x := range next.Base {
			nodes = append(nodes, x.Child, x.Parent)
		}
		if !slices.Equal(log, d.log) || !slices.Equal(next.Marks, d.marks) || !slices.Equal(nodes, d.nodes) || !floor.May(next) {
			t.Fatalf("deed %d of %v: %v", i, was, next)
		}
		if wantFloor := map[bool]api.Time{false: was.Floor, true: d.m.Time}[d.prune && before(was.Floor, d.m.Time)]; next.Floor != wantFloor {
			t.Fatalf("deed %d of %v: Floor %v", i, was, next.Floor)
		}
		r = next
	}
}

// P18.2 and P18.4: Add and Prune, one behind the other, by hand.
func TestPlay(t *testing.T) {
	add := func(m api.Move, log []api.Time, v []api.Mark, nodes ...int) deed {
		return deed{m, false, true, api.OK, log, v, nodes}
	}
	prune := func(when api.Time, log []api.Time, v []api.Mark, nodes ...int) deed {
		return deed{api.Move{Time: when}, true, false, api.OK, log, v, nodes}
	}
	not := func(m api.Move, e api.Errno) deed { return deed{m: m, e: e} }
	notYet := func(when api.Time, e api.Errno) deed {
		return deed{m: api.Move{Time: when}, prune: true, e: e}
	}
	times := func(numbers ...int) []api.Time {
		var l []api.Time
		for i := 0; i < len(numbers); i += 2 {
			l = append(l, at(numbers[i], numbers[i+1]))
		}
		return l
	}
	play(t, []deed{
		notYet(at(0, 0), api.ErrArg), notYet(at(1, 1), api.ErrArg), not(api.Move{}, api.ErrArg),
		add(move(3, 1, 1, 0), times(3, 1), list(1, 3)), not(move(3, 1, 1, 0), api.OK), not(move(3, 1, 9, 9), api.OK),
		add(move(5, 2, 2, 1), times(3, 1, 5, 2), list(1, 3, 2, 5)),
		// One that comes late raises its replica's mark alone; one behind that mark raises none.
		add(move(4, 1, 1, 2), times(3, 1, 4, 1, 5, 2), list(1, 4, 2, 5)), add(move(2, 1, 3, 0), times(2, 1, 3, 1, 4, 1, 5, 2), list(1, 4, 2, 5)), add(move(5, 1, 4, 3), times(2, 1, 3, 1, 4, 1, 5, 1, 5, 2), list(1, 5, 2, 5)),
		notYet(at(6, 2), api.ErrArg), notYet(at(5, 3), api.ErrArg), notYet(at(5, 0), api.ErrArg), notYet(at(-1, 1), api.ErrArg),
		// Of one Counter the Replica tells what is settled; a Time of no move may be one's Floor.
		prune(at(2, 2), times(3, 1, 4, 1, 5, 1, 5, 2), list(1, 5, 2, 5), 3, 0), not(move(2, 2, 1, 0), api.ErrStale), not(move(2, 1, 3, 0), api.ErrStale), not(move(1, 9, 3, 0), api.ErrStale), add(move(2, 3, 1, 3), times(2, 3, 3, 1, 4, 1, 5, 1, 5, 2), list(1, 5, 2, 5, 3, 2), 3, 0),
		prune(at(5, 1), times(5, 2), list(1, 5, 2, 5, 3, 2), 1, 2, 3, 0, 4, 3), not(move(5, 1, 4, 3), api.ErrStale), not(move(4, 9, 4, 3), api.ErrStale),
		// A Floor that is no further changes nothing.
		prune(at(5, 1), times(5, 2), list(1, 5, 2, 5, 3, 2), 1, 2, 3, 0, 4, 3), prune(at(1, 1), times(5, 2), list(1, 5, 2, 5, 3, 2), 1, 2, 3, 0, 4, 3), prune(at(2, 3), times(5, 2), list(1, 5, 2, 5, 3, 2), 1, 2, 3, 0, 4, 3), notYet(at(3, 3), api.ErrArg), notYet(at(1, 4), api.ErrArg), notYet(at(0, 1), api.ErrArg),
		// What is settled is barred by what was settled ahead of it.
		prune(at(5, 2), nil, list(1, 5, 2, 5, 3, 2), 1, 2, 3, 0, 4, 3), not(move(5, 2, 2, 1), api.ErrStale), add(move(5, 3, 2, 0), times(5, 3), list(1, 5, 2, 5, 3, 5), 1, 2, 3, 0, 4, 3), prune(at(5, 3), nil, list(1, 5, 2, 5, 3, 5), 1, 2, 2, 0, 3, 0, 4, 3),
		add(move(top, 255, 2, 5), times(top, 255), list(1, 5, 2, 5, 3, 5, 255, top), 1, 2, 2, 0, 3, 0, 4, 3), not(move(top+1, 255, 2, 5), api.ErrArg), prune(at(top, 255), nil, list(1, 5, 2, 5, 3, 5, 255, top), 1, 2, 2, 5, 3, 0, 4, 3), not(move(top, 254, 1, 0), api.ErrStale),
	})
}

// P18.2: Add: a replica or a move that may not be.
func TestAddArg(t *testing.T) {
	for i, r := range wrong() {
		for _, m := range []api.Move{{}, move(9, 1, 1, 0), move(1, 1, 1, 0), move(9, 1, 9000, 0)} {
			if got, fresh, e := floor.Add(r, m); e != api.ErrArg || fresh || !same(got, r) {
				t.Errorf("Add of %v to wrong %d: %v, %d", m, i, fresh, e)
			}
		}
	}
	good := move(9, 1, 1, 0)
	change := func(change func(m *api.Move)) api.Move {
		m := good
		change(&m)
		return m
	}
	for i, r := range right() {
		for _, m := range []api.Move{
			{}, move(0, 1, 1, 0), move(-1, 1, 1, 0), move(top+1, 1, 1, 0), move(9, 0, 1, 0), move(9, 256, 1, 0), move(9, -1, 1, 0), move(9, 1, 0, 0), move(9, 1, -1, 0), move(9, 1, 1<<31, 0), move(9, 1, 1, -1), move(9, 1, 1, 1<<31),
			change(func(m *api.Move) { m.Name = "\xff" }), change(func(m *api.Move) { m.Name = strings.Repeat("a", 65) }),
		} {
			// All else that would be told of a move that may be comes behind that.
			if got, fresh, e := floor.Add(r, m); e != api.ErrArg || fresh || !same(got, r) {
				t.Errorf("Add of %v to right %d: %v, %d", m, i, fresh, e)
			}
		}
	}
}

// P18.2: which error is told of several, and where the limits are.
func TestAddBig(t *testing.T) {
	full := func(base []api.Row, count int) api.Replica {
		return api.Replica{Base: base, Floor: at(10, 1), Log: many(count, 11, 1), Marks: list(1, 10+count)}
	}
	stay := api.Replica{Base: chain(1), Floor: at(10, 1), Log: []api.Move{move(11, 1, 2, 0)}, Marks: list(1, 11)}
	for i, c := range []struct {
		r     api.Replica
		m     api.Move
		fresh bool
		e     api.Errno
	}{
		// 2000 moves.
		{full(nil, 1999), move(5000, 1, 1, 0), true, api.OK}, {full(nil, 2000), move(5000, 1, 1, 0), false, api.ErrBig}, {full(nil, 2000), move(10, 2, 1, 0), false, api.ErrBig}, {full(nil, 2000), move(11, 1, 1, 0), false, api.OK}, {full(nil, 2000), move(2010, 1, 7, 7), false, api.OK}, {full(nil, 2000), move(10, 1, 1, 0), false, api.ErrStale}, {full(nil, 2000), move(9, 9, 2, 0), false, api.ErrStale}, {full(nil, 2000), move(9, 9, 0, 0), false, api.ErrArg},
		// 2000 Children, of rows, of moves, of both.
		{full(chain(1999), 1), move(5000, 1, 2000, 0), true, api.OK}, {full(chain(2000), 1), move(5000, 1, 2001, 0), false, api.ErrBig}, {full(chain(2000), 1), move(5000, 1, 2000, 0), true, api.OK}, {full(chain(2000), 1), move(5000, 1, 1, 2001), true, api.OK}, {full(chain(2000), 1), move(5000, 1, 2001, 2001), false, api.ErrBig}, {full(chain(2000), 1), move(11, 1, 2001, 0), false, api.OK}, {full(chain(2000), 1), move(10, 1, 2001, 0), false, api.ErrStale}, {full(chain(2000), 1), move(5000, 1, 2001, -1), false, api.ErrArg},
		{api.Replica{Base: chain(2000)}, move(1, 1, 2001, 0), false, api.ErrBig}, {api.Replica{Base: chain(2000)}, move(1, 1, 2000, 1), true, api.OK}, {api.Replica{Base: chain(1999)}, move(1, 1, 2001, 0), true, api.OK}, {of(chain(1999), move(5, 1, 2000, 0)), move(1, 1, 2001, 0), false, api.ErrBig}, {of(chain(1999), move(5, 1, 2000, 0)), move(1, 1, 2000, 1), true, api.OK}, {of(chain(1999), move(5, 1, 2000, 2000)), move(1, 1, 2001, 0), false, api.ErrBig}, {of(chain(1999), move(5, 1, 1999, 0)), move(1, 1, 2001, 0), true, api.OK},
		// Both.
		{full(chain(2000), 2000), move(5000, 1, 1, 0), false, api.ErrBig}, {full(chain(2000), 1999), move(5000, 1, 1, 0), true, api.OK}, {full(chain(2000), 1999), move(5000, 1, 2001, 0), false, api.ErrBig}, {full(chain(2000), 2000), move(11, 1, 2001, 0), false, api.OK},
		// A move that was settled is stale, and not there twice; one of which just the Time is there is told as there.
		{stay, move(10, 1, 1, 0), false, api.ErrStale}, {stay, move(11, 1, 3, 0), false, api.OK}, {stay, move(10, 2, 3, 0), true, api.OK},
	} {
		got, fresh, e := floor.Add(c.r, c.m)
		if fresh != c.fresh || e != c.e {
			t.Errorf("case %d: Add of %v: %v, %d", i, c.m, fresh, e)
		}
		want := c.r
		if c.fresh {
			want.Log, _, _ = moves.Insert(c.r.Log, c.m)
			want.Marks = marks.Raise(c.r.Marks, c.m.Time)
		}
		if !same(got, want) || !floor.May(got) {
			t.Errorf("case %d: Add of %v: %d moves, %v", i, c.m, len(got.Log), got.Marks)
		}
	}
}

// P18.2: moves alone that lay 2000 nodes.
func TestAddChildren(t *testing.T) {
	var log []api.Move
	for i := range 1999 {
		log = append(log, move(i+1, 1, i+1, 0))
	}
	if _, fresh, e := floor.Add(of(rows(2000, 0), log...), move(5000, 1, 2001, 0)); fresh || e != api.ErrBig {
		t.Errorf("2001 Children: %v, %d", fresh, e)
	}
	if r, fresh, e := floor.Add(of(rows(1, 0), log...), move(5000, 1, 2001, 0)); !fresh || e != api.OK || !floor.May(r) {
		t.Errorf("2000 Children: %v, %d", fresh, e)
	}
}

// P18.3: Merge, by hand.
func TestMerge(t *testing.T) {
	three, late, stale := move(9, 9, 7, 3), move(4, 1, 8, 1), move(3, 2, 9, 0)
	for i, c := range []struct {
		l     []api.Move
		e     api.Errno
		times int
		v     []api.Mark
	}{
		{nil, api.OK, 2, list(1, 5, 2, 3, 4, 7)}, {[]api.Move{three}, api.OK, 3, list(1, 5, 2, 3, 4, 7, 9, 9)}, {[]api.Move{three, late}, api.OK, 4, list(1, 5, 2, 3, 4, 7, 9, 9)}, {[]api.Move{late, three, late, three}, api.OK, 4, list(1, 5, 2, 3, 4, 7, 9, 9)}, {middle().Log, api.OK, 2, list(1, 5, 2, 3, 4, 7)},
		{[]api.Move{stale}, api.ErrStale, 2, nil}, {[]api.Move{three, stale}, api.ErrStale, 2, nil}, {[]api.Move{three, late, stale, {}}, api.ErrStale, 2, nil}, {[]api.Move{three, {}, stale}, api.ErrArg, 2, nil}, {[]api.Move{{}}, api.ErrArg, 2, nil}, {append(many(1998, 100, 1), three), api.ErrBig, 2, nil}, {append(many(1999, 100, 1), stale), api.ErrBig, 2, nil}, {many(1998, 100, 1), api.OK, 2000, list(1, 2097, 2, 3, 4, 7)}, {append(many(1998, 100, 1), move(101, 1, 2, 0)), api.OK, 2000, list(1, 2097, 2, 3, 4, 7)}, {append(many(1998, 100, 1), stale), api.ErrStale, 2, nil},
	} {
		r, was := middle(), middle()
		wasL := slices.Clone(c.l)
		got, e := floor.Merge(r, c.l)
		if e != c.e || len(got.Log) != c.times || !same(r, was) || !moves.Same(c.l, wasL) {
			t.Fatalf("case %d: %d moves, %d", i, len(got.Log), e)
		}
		want := was
		if e == api.OK {
			want.Log, want.Marks = moves.Union(was.Log, c.l), c.v
		}
		if !same(got, want) {
			t.Errorf("case %d: %v, %d", i, got, e)
		}
	}
	for i, r := range wrong() {
		if got, e := floor.Merge(r, []api.Move{three}); e != api.ErrArg || !same(got, r) {
			t.Errorf("wrong %d: %d", i, e)
		}
		// Where no move is added, there is none of which Add could tell an error.
		if got, e := floor.Merge(r, nil); e != api.OK || !same(got, r) {
			t.Errorf("wrong %d, nothing: %d", i, e)
		}
	}
}

// P18.3: Merge is Add of each.
func TestMergeAdds(t *testing.T) {
	next := numbers()
	told := map[api.Errno]int{}
	for range 600 {
		r := middle()
		if next()%4 == 0 {
			r.Base = chain(1999)
		}
		var l []api.Move
		for range next() % 9 {
			m := move(int(next()%12)+2, int(next()%4)+1, int(next()%5)+1, int(next()%6))
			if next()%40 == 0 {
				m.Child = 0
			}
			if next()%4 == 0 {
				m.Child += 1998
			}
			if m.Time.Counter < 4 && next()%3 > 0 {
				m.Time.Counter += 6
			}
			l = append(l, m)
		}
		want, wantE := r, api.OK
		for _, m := range l {
			var e api.Errno
			if want, _, e = floor.Add(want, m); e != api.OK {
				want, wantE = r, e
				break
			}
		}
		got, e := floor.Merge(r, l)
		if e != wantE || !same(got, want) {
			t.Fatalf("Merge of %v: %v, %d, not %v, %d", l, got, e, want, wantE)
		}
		told[e]++
	}
	for _, e := range []api.Errno{api.OK, api.ErrArg, api.ErrStale, api.ErrBig} {
		if told[e] < 10 {
			t.Errorf("%d told %d times", e, told[e])
		}
	}
}

// P18.4: Prune: a replica or a Time that may not be.
func TestPruneArg(t *testing.T) {
	for i, r := range wrong() {
		for _, when := range []api.Time{at(1, 1), at(5, 1), {}, r.Floor} {
			if got, e := floor.Prune(r, when); e != api.ErrArg || !same(got, r) {
				t.Errorf("Prune of wrong %d to %v: %d", i, when, e)
			}
		}
	}
	for i, r := range right() {
		for _, when := range []api.Time{{}, at(0, 1), at(0, 255), at(-1, 1), at(5, 0), at(5, -1), at(5, 256), at(1, 257), at(top+1, 1), at(math.MaxInt, 255), at(math.MinInt, 1), at(1, math.MinInt), at(1, math.MaxInt), at(1, 200)} {
			if got, e := floor.Prune(r, when); e != api.ErrArg || !same(got, r) {
				t.Errorf("Prune of right %d to %v: %d", i, when, e)
			}
		}
		for _, m := range r.Marks {
			if got, e := floor.Prune(r, at(m.Counter+1, m.Replica)); e != api.ErrArg || !same(got, r) {
				t.Errorf("Prune of right %d above mark %v: %d", i, m, e)
			}
			if got, e := floor.Prune(r, at(m.Counter, m.Replica)); e != api.OK || got.Floor != r.Floor && got.Floor != at(m.Counter, m.Replica) {
				t.Errorf("Prune of right %d at mark %v: %v, %d", i, m, got.Floor, e)
			}
		}
	}
}

// P18.4: Prune of middle to all Times around, by its words.
func TestPruneAll(t *testing.T) {
	for _, r := range []api.Replica{middle(), but(func(r *api.Replica) { r.Floor = api.Time{} }), of(rows(1, 0, 2, 1), move(1, 1, 1, 2), move(1, 2, 2, 0), move(2, 1, 1, 2), move(2, 3, 3, 1), move(4, 2, 2, 3))} {
		was := copied(r)
		for counter := -1; counter <= 8; counter++ {
			for replica := -1; replica <= 6; replica++ {
				when := at(counter, replica)
				want, wantE := copied(was), api.OK
				if !settled(was.Marks, when) {
					wantE = api.ErrArg
				} else if before(was.Floor, when) {
					var done []api.Move
					want.Floor, want.Log = when, nil
					for _, m := range was.Log {
						if before(when, m.Time) {
							want.Log = append(want.Log, m)
						} else {
							done = append(done, m)
						}
					}
					want.Base = fold.All(was.Base, done)
				}
				got, e := floor.Prune(r, when)
				if e != wantE || !same(got, want) || !same(r, was) || !floor.May(got) {
					t.Errorf("Prune of %v to %v: %v, %d, not %v, %d", was, when, got, e, want, wantE)
				}
			}
		}
	}
}

// P18.4: of 2000 moves all are settled, or all but the last, or just the first.
func TestPruneLong(t *testing.T) {
	var log []api.Move
	for i := range 2000 {
		log = append(log, move(i+1, i%255+1, i+1, i))
	}
	r := of(nil, log...)
	for _, count := range []int{1, 255, 1999, 2000} {
		got, e := floor.Prune(r, log[count-1].Time)
		if e != api.OK || len(got.Base) != count || !moves.Same(got.Log, log[count:]) || !floor.May(got) || !tree.Same(floor.Tree(got), floor.Tree(r)) {
			t.Errorf("Prune of %d: %d rows, %d moves, %d", count, len(got.Base), len(got.Log), e)
		}
	}
}

// some makes a move by chance, of few Times and nodes.
func some(next func() uint64) api.Move {
	ranks := []float64{0, math.Copysign(0, -1), 1, math.NaN()}
	m := move(int(next()%12)+1, int(next()%4)+1, int(next()%6)+1, int(next()%8))
	m.Rank = ranks[next()%4]
	return m
}

// P18.5: of a replica that may be comes one that may be; pruning leaves the tree as it is, then and behind all moves that
// come.
func TestFollows(t *testing.T) {
	next := numbers()
	pruned, stale, came := 0, 0, 0
	for range 150 {
		var r, whole api.Replica
		for range 40 {
			if next()%5 == 0 {
				got, e := floor.Prune(r, at(int(next()%14), int(next()%5)))
				if !floor.May(got) || !tree.Same(floor.Tree(got), floor.Tree(r)) {
					t.Fatalf("Prune of %v: %v, %d", r, got, e)
				}
				if e == api.OK && got.Floor != r.Floor {
					pruned++
				}
				r = got
				continue
			}
			m := some(next)
			got, fresh, e := floor.Add(r, m)
			if !floor.May(got) {
				t.Fatalf("Add of %v to %v: %v", m, r, got)
			}
			if e == api.ErrStale {
				stale++
				continue
			}
			// What is not stale comes to one that never prunes, too.
			all, wasFresh, wasE := floor.Add(whole, m)
			if fresh != wasFresh || e != wasE || !tree.Same(floor.Tree(got), floor.Tree(all)) {
				t.Fatalf("Add of %v to %v: %v, %d; whole: %v, %d", m, r, fresh, e, wasFresh, wasE)
			}
			r, whole = got, all
			came++
			if !slices.Equal(r.Marks, marks.Of(whole.Log)) || !moves.Same(r.Log, moves.Since(whole.Log, r.Floor)) {
				t.Fatalf("%v, whole %v", r, whole)
			}
		}
		if !tree.Same(floor.Tree(r), fold.All(nil, whole.Log)) {
			t.Fatalf("Tree of %v: %v", r, floor.Tree(r))
		}
	}
	if pruned < 100 || stale < 500 || came < 1000 {
		t.Errorf("%d pruned, %d stale, %d came", pruned, stale, came)
	}
}

// orders goes by all orders in which l may stand.
func orders(l []api.Move, yield func([]api.Move) bool) bool {
	if len(l) == 0 {
		return yield(nil)
	}
	for i, m := range l {
		rest := slices.Delete(slices.Clone(l), i, i+1)
		if !orders(rest, func(order []api.Move) bool { return yield(append(order, m)) }) {
			return false
		}
	}
	return true
}

// P18.5: moves come in whatever order, and however often, to the same.
func TestOrders(t *testing.T) {
	l := []api.Move{move(3, 3, 3, 2), move(4, 2, 1, 3), move(5, 3, 2, 0), move(6, 1, 1, 3), move(6, 2, 4, 1), move(9, 1, 3, 4)}
	want, e := floor.Merge(middle(), l)
	if e != api.OK || len(want.Log) != 8 {
		t.Fatalf("Merge: %v, %d", want, e)
	}
	pruned, _ := floor.Prune(want, at(5, 1))
	seen := 0
	orders(l, func(order []api.Move) bool {
		seen++
		one := middle()
		for i, m := range order {
			var fresh, again bool
			one, fresh, _ = floor.Add(one, m)
			one, again, _ = floor.Add(one, order[i/2])
			if !fresh || again {
				t.Errorf("Add of %v: %v, %v", m, fresh, again)
			}
		}
		all, e := floor.Merge(middle(), order)
		settled, _ := floor.Prune(all, at(5, 1))
		if e != api.OK || !floor.Same(one, want) || !floor.Same(all, want) || !floor.Same(settled, pruned) {
			t.Errorf("in the order of %v: %v, %v", order, one, all)
		}
		return !t.Failed()
	})
	if seen != 720 {
		t.Errorf("%d orders", seen)
	}
}

// spoil overwrites all of r's lists, and writes behind each where there is room.
func spoil(r api.Replica) {
	for i := range r.Base {
		r.Base[i] = api.Row{Child: 99}
	}
	for i := range r.Log {
		r.Log[i] = api.Move{Child: 99}
	}
	for i := range r.Marks {
		r.Marks[i] = api.Mark{Replica: 99}
	}
	_, _, _ = append(r.Base, api.Row{}), append(r.Log, api.Move{}), append(r.Marks, api.Mark{})
}

// roomy tells middle in lists of which each has something behind it in the same memory.
func roomy() (api.Replica, func() bool) {
	r := middle()
	base, log, v := append(r.Base, rows(8, 8, 9, 9)...), append(r.Log, move(8, 8, 8, 8), move(9, 9, 9, 9)), append(r.Marks, list(8, 8, 9, 9)...)
	r.Base, r.Log, r.Marks = base[:2], log[:2], v[:3]
	wasBase, wasLog, wasMarks := slices.Clone(base), slices.Clone(log), slices.Clone(v)
	return r, func() bool {
		return slices.Equal(base, wasBase) && slices.Equal(log, wasLog) && slices.Equal(v, wasMarks)
	}
}

// R5: no call changes what it is handed, nor writes behind it, nor changes what it told ahead.
func TestRoom(t *testing.T) {
	calls := []func(r api.Replica) api.Replica{
		func(r api.Replica) api.Replica { next, _, _ := floor.Add(r, move(4, 1, 5, 1)); return next },
		func(r api.Replica) api.Replica { next, _, _ := floor.Add(r, move(9, 9, 1, 0)); return next },
		func(r api.Replica) api.Replica { next, _, _ := floor.Add(r, move(9, 2, 2, 0)); return next },
		func(r api.Replica) api.Replica { next, _, _ := floor.Add(r, move(5, 1, 2, 0)); return next },
		func(r api.Replica) api.Replica { next, _, _ := floor.Add(r, api.Move{}); return next },
		func(r api.Replica) api.Replica { next, _ := floor.Prune(r, at(3, 4)); return next },
		func(r api.Replica) api.Replica { next, _ := floor.Prune(r, at(5, 1)); return next },
		func(r api.Replica) api.Replica { next, _ := floor.Prune(r, at(7, 4)); return next },
		func(r api.Replica) api.Replica { next, _ := floor.Prune(r, at(9, 9)); return next },
		func(r api.Replica) api.Replica {
			next, _ := floor.Merge(r, []api.Move{move(4, 4, 2, 0), move(6, 6, 6, 0)})
			return next
		},
		func(r api.Replica) api.Replica {
			next, _ := floor.Merge(r, []api.Move{move(4, 4, 2, 0), {}})
			return next
		},
		func(r api.Replica) api.Replica { return api.Replica{Base: floor.Tree(r)} },
	}
	for i, call := range calls {
		r, unchanged := roomy()
		one := call(r)
		if !unchanged() {
			t.Fatalf("call %d changes %v", i, r)
		}
		for k, then := range calls {
			was := copied(one)
			two := then(one)
			wasTwo := copied(two)
			three := calls[(k+1)%len(calls)](one)
			if !unchanged() || !same(one, was) || !same(two, wasTwo) {
				t.Fatalf("calls %d, %d: %v, %v, %v", i, k, one, two, three)
			}
		}
		// A list that was told may be the one that was handed in; where it is another one, it has no memory of that.
		if !tree.Same(one.Base, r.Base) {
			spoil(api.Replica{Base: one.Base})
		}
		if !moves.Same(one.Log, r.Log) {
			spoil(api.Replica{Log: one.Log})
		}
		if !slices.Equal(one.Marks, r.Marks) {
			spoil(api.Replica{Marks: one.Marks})
		}
		if !unchanged() {
			t.Errorf("call %d shares with %v", i, r)
		}
	}
}

// R6: no call hangs on what was called ahead.
func TestAgain(t *testing.T) {
	l := append(right()[:5], middle(), wrong()[3])
	all := func() string {
		s := ""
		for _, r := range l {
			one, fresh, e := floor.Add(r, move(4, 9, 1, 0))
			two, other := floor.Prune(r, at(5, 1))
			three, last := floor.Merge(r, []api.Move{move(6, 2, 1, 0), move(3, 4, 1, 0)})
			s += fmt.Sprint(floor.May(r), floor.Tree(r), one, fresh, e, two, other, three, last, floor.Same(one, two))
		}
		return s
	}
	begin := all()
	for range 3 {
		if again := all(); again != begin {
			t.Errorf("%s, again %s", begin, again)
		}
		floor.Merge(api.Replica{}, many(20, 1, 1))
		floor.Prune(api.Replica{Floor: at(1, 1), Marks: list(1, 5)}, at(5, 1))
	}
}

// P3 and P18.2: the first five examples of the whole, and the chapter's own.
func TestExamples(t *testing.T) {
	first, second := move(1, 1, 1, 2), move(2, 2, 2, 1)
	base := api.Replica{Base: rows(1, 0, 2, 0)}
	one, _, _ := floor.Add(base, first)
	one, _, _ = floor.Add(one, second)
	third, _, _ := floor.Add(base, second)
	third, _, _ = floor.Add(third, first)
	// Barred everywhere, in whatever order they came.
	if r, has := tree.Find(floor.Tree(one), 2); !has || r.Parent != 0 || !floor.Same(one, third) {
		t.Errorf("%v, %v", floor.Tree(one), third)
	}
	if again, fresh, e := floor.Add(third, first); fresh || e != api.OK || !floor.Same(again, third) {
		t.Errorf("twice: %v, %v, %d", again, fresh, e)
	}
	settled, e := floor.Prune(third, at(1, 1))
	if e != api.OK || len(settled.Log) != 1 || !tree.Same(floor.Tree(settled), floor.Tree(third)) {
		t.Errorf("settled: %v, %d", settled, e)
	}
	for _, m := range []api.Move{first, {Time: at(1, 1), Child: 5}} {
		if _, fresh, e := floor.Add(settled, m); fresh || e != api.ErrStale {
			t.Errorf("stale: %v, %d", fresh, e)
		}
	}
	r := of(nil, move(3, 1, 1, 0))
	r, _ = floor.Prune(r, at(3, 1))
	if _, fresh, e := floor.Add(r, move(2, 1, 1, 0)); fresh || e != api.ErrStale || r.Floor != at(3, 1) {
		t.Errorf("pruned at time 3, of time 2: %v, %d", fresh, e)
	}
}
