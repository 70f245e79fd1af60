package moves_test

import (
	"fmt"
	"math"
	"slices"
	"strings"
	"testing"

	"bonsai/api"
	"bonsai/moves"
)

const (
	topCounter = 1<<62 - 1
	topNode    = 1<<31 - 1
)

// at tells a Time.
func at(counter int, replica int) api.Time {
	return api.Time{Counter: counter, Replica: replica}
}

// list makes moves of Counters and Replicas, one behind the other, each with a Name of its own.
func list(times ...int) []api.Move {
	var l []api.Move
	for i := 0; i < len(times); i += 2 {
		l = append(l, api.Move{Time: at(times[i], times[i+1]), Child: i/2 + 1, Parent: i / 2, Name: fmt.Sprint("n", i/2), Rank: float64(i)})
	}
	return l
}

// lists goes by all lists of up to four moves whose Times are among six, in each order, and with each as often as there
// is room; no list is told twice.
func lists(yield func([]api.Move) bool) {
	times := [][]int{{-1, 2}, {1, 1}, {1, 2}, {1, 3}, {2, 0}, {2, 2}}
	all := [][]int{nil}
	for begin := 0; begin < len(all); begin++ {
		if !yield(list(all[begin]...)) {
			return
		}
		if len(all[begin]) == 8 {
			continue
		}
		for _, t := range times {
			all = append(all, append(slices.Clone(all[begin]), t...))
		}
	}
}

// between goes by Times of which each stands among, or at, those that lists has.
func between(yield func(api.Time) bool) {
	for counter := -2; counter <= 3; counter++ {
		for replica := -1; replica <= 4; replica++ {
			if !yield(at(counter, replica)) {
				return
			}
		}
	}
	for _, far := range []int{math.MinInt, math.MaxInt} {
		if !yield(at(far, 2)) || !yield(at(1, far)) {
			return
		}
	}
}

// before tells by the document's words whether a is ahead of b.
func before(a api.Time, b api.Time) bool {
	return a.Counter < b.Counter || a.Counter == b.Counter && a.Replica < b.Replica
}

// insert tells by the document's words l with m in it.
func insert(l []api.Move, m api.Move) ([]api.Move, int, bool) {
	for i := range l {
		if l[i].Time == m.Time {
			return slices.Clone(l), i, false
		}
	}
	for i := range l {
		if before(m.Time, l[i].Time) {
			return slices.Insert(slices.Clone(l), i, m), i, true
		}
	}
	return slices.Insert(slices.Clone(l), len(l), m), len(l), true
}

// P13.1: One, and May of one.
func TestOne(t *testing.T) {
	long := strings.Repeat("a", 64)
	good := api.Move{Time: at(1, 1), Child: 1}
	of := func(change func(m *api.Move)) api.Move {
		m := good
		change(&m)
		return m
	}
	counter := func(c int) api.Move { return of(func(m *api.Move) { m.Time.Counter = c }) }
	replica := func(r int) api.Move { return of(func(m *api.Move) { m.Time.Replica = r }) }
	child := func(n int) api.Move { return of(func(m *api.Move) { m.Child = n }) }
	parent := func(n int) api.Move { return of(func(m *api.Move) { m.Parent = n }) }
	name := func(s string) api.Move { return of(func(m *api.Move) { m.Name = s }) }
	rank := func(f float64) api.Move { return of(func(m *api.Move) { m.Rank = f }) }
	for _, c := range []struct {
		m    api.Move
		want bool
	}{
		{api.Move{}, false}, {good, true}, {api.Move{Time: at(topCounter, 255), Child: topNode, Parent: topNode, Name: long, Rank: math.NaN()}, true},
		{counter(0), false}, {counter(2), true}, {counter(topCounter), true}, {counter(topCounter - 1), true}, {counter(topCounter + 1), false}, {counter(-1), false}, {counter(math.MinInt), false}, {counter(math.MaxInt), false}, {counter(1 << 32), true},
		{replica(0), false}, {replica(2), true}, {replica(255), true}, {replica(256), false}, {replica(257), false}, {replica(-1), false}, {replica(math.MinInt), false}, {replica(math.MaxInt), false}, {replica(1<<32 + 1), false},
		{child(0), false}, {child(topNode), true}, {child(topNode + 1), false}, {child(-1), false}, {child(math.MinInt), false}, {child(1<<32 + 1), false},
		{parent(1), true}, {parent(topNode), true}, {parent(topNode + 1), false}, {parent(-1), false}, {parent(math.MaxInt), false}, {parent(1 << 32), false},
		{name("x"), true}, {name(long), true}, {name(long + "a"), false}, {name(strings.Repeat("é", 32)), true}, {name(strings.Repeat("é", 33)), false}, {name("\xff"), false}, {name("a\xc3"), false}, {name("\xed\xa0\x80"), false}, {name("\x00"), true},
		{rank(math.NaN()), true}, {rank(math.Inf(-1)), true}, {rank(math.Copysign(0, -1)), true}, {rank(5e-324), true},
	} {
		if got := moves.One(c.m); got != c.want {
			t.Errorf("One of %+v: %v", c.m, got)
		}
		if got := moves.May([]api.Move{c.m}); got != c.want {
			t.Errorf("May of %+v alone: %v", c.m, got)
		}
		if got := moves.May([]api.Move{{Time: at(0, 1), Child: 1}, c.m}); got {
			t.Errorf("May of %+v behind one that may not be", c.m)
		}
	}
}

// rising tells count moves whose Times rise by the Counter alone.
func rising(count int) []api.Move {
	l := make([]api.Move, count)
	for i := range l {
		l[i] = api.Move{Time: at(i+1, 255-i%255), Child: 1}
	}
	return l
}

// P13.1: May.
func TestMay(t *testing.T) {
	for _, c := range []struct {
		l    []api.Move
		want bool
	}{
		{nil, true}, {[]api.Move{}, true}, {list(1, 1), true}, {list(1, 1, 1, 2), true}, {list(1, 2, 2, 1), true}, {list(1, 255, 2, 1), true}, {list(1, 1, 1, 2, 2, 1, 9, 9), true}, {list(1, 1, topCounter, 255), true}, {list(topCounter, 254, topCounter, 255), true},
		{list(1, 1, 1, 1), false}, {list(1, 2, 1, 1), false}, {list(2, 1, 1, 1), false}, {list(2, 1, 1, 2), false}, {list(1, 1, 3, 1, 2, 1), false}, {list(1, 1, 2, 1, 2, 1), false}, {list(1, 1, 2, 1, 1, 1), false}, {list(1, 1, 2, 2, 2, 1, 3, 1), false},
		{list(0, 1, 1, 1), false}, {list(1, 1, 2, 0), false}, {list(1, 1, 2, 256), false}, {list(1, 1, topCounter+1, 1), false}, {list(-1, 1, 1, 1), false},
		{rising(2000), true}, {rising(2001), false}, {rising(5000), false}, {make([]api.Move, 2001), false},
	} {
		if got := moves.May(c.l); got != c.want {
			t.Errorf("May of %d moves, %.200v: %v", len(c.l), c.l, got)
		}
	}
	// Each of them counts, and what nodes they lay below one another does not.
	for i := range 4 {
		l := list(1, 1, 2, 1, 3, 1, 4, 1)
		l[i].Child, l[i].Parent = 1, 1
		if !moves.May(l) {
			t.Errorf("not May: a node below itself at %d", i)
		}
		l[i].Name = "\xff"
		if moves.May(l) {
			t.Errorf("May of a wrong Name at %d", i)
		}
	}
	for l := range lists {
		want := true
		for i, m := range l {
			if m.Time.Counter < 1 || m.Time.Replica < 1 || i > 0 && !before(l[i-1].Time, m.Time) {
				want = false
			}
		}
		if got := moves.May(l); got != want {
			t.Fatalf("May of %v: %v", l, got)
		}
	}
}

// P13.1: Row.
func TestRow(t *testing.T) {
	for _, c := range []struct {
		m    api.Move
		want api.Row
	}{
		{api.Move{}, api.Row{}}, {api.Move{Time: at(8, 9)}, api.Row{}}, {api.Move{Time: at(8, 9), Parent: 1, Child: 2, Name: "n", Rank: 3.5}, api.Row{Child: 2, Parent: 1, Name: "n", Rank: 3.5}},
		{api.Move{Parent: math.MinInt, Child: math.MaxInt, Name: "\xff", Rank: math.Inf(-1)}, api.Row{Child: math.MaxInt, Parent: math.MinInt, Name: "\xff", Rank: math.Inf(-1)}},
	} {
		if got := moves.Row(c.m); got != c.want {
			t.Errorf("Row of %+v: %+v", c.m, got)
		}
	}
	if r := moves.Row(api.Move{Rank: math.Copysign(0, -1)}); !math.Signbit(r.Rank) {
		t.Errorf("Row of nought with a minus: %v", r)
	}
	if r := moves.Row(api.Move{Child: 1, Rank: math.NaN()}); r.Rank == r.Rank || r.Child != 1 {
		t.Errorf("Row of no number: %v", r)
	}
}

// P13.1: Same.
func TestSame(t *testing.T) {
	m := api.Move{Time: at(1, 2), Child: 1, Parent: 2, Name: "n", Rank: 3}
	for _, n := range []api.Move{
		{Time: at(2, 2), Child: 1, Parent: 2, Name: "n", Rank: 3}, {Time: at(1, 1), Child: 1, Parent: 2, Name: "n", Rank: 3}, {Time: at(2, 1), Child: 1, Parent: 2, Name: "n", Rank: 3},
		{Time: at(1, 2), Child: 2, Parent: 2, Name: "n", Rank: 3}, {Time: at(1, 2), Child: 1, Parent: 1, Name: "n", Rank: 3}, {Time: at(1, 2), Child: 1, Parent: 2, Name: "m", Rank: 3}, {Time: at(1, 2), Child: 1, Parent: 2, Name: "n", Rank: 4}, {Time: at(1, 2), Child: 2, Parent: 1, Name: "n", Rank: 3}, {},
	} {
		for _, c := range [][2][]api.Move{{{m}, {n}}, {{n}, {m}}, {{m, m}, {m, n}}, {{m, m}, {n, m}}, {{m, n}, {n, m}}, {{m}, {m, n}}, {{m, n}, {m}}} {
			if moves.Same(c[0], c[1]) {
				t.Errorf("Same of %v, %v", c[0], c[1])
			}
		}
		for _, l := range [][]api.Move{{n}, {m, n}, {n, m, n}} {
			if !moves.Same(l, slices.Clone(l)) {
				t.Errorf("not Same: %v", l)
			}
		}
	}
	for _, c := range [][2][]api.Move{{nil, nil}, {nil, {}}, {{}, {}}} {
		if !moves.Same(c[0], c[1]) {
			t.Errorf("not Same: %v, %v", c[0], c[1])
		}
	}
	for _, c := range [][2][]api.Move{{nil, {m}}, {{m}, nil}, {{m, m}, {m}}, {{}, {{}}}} {
		if moves.Same(c[0], c[1]) {
			t.Errorf("Same of %v, %v", c[0], c[1])
		}
	}
	ranks := []float64{0, math.Copysign(0, -1), 1, -1, math.Inf(1), math.Inf(-1), 5e-324, math.Nextafter(1, 2), math.NaN()}
	for i, a := range ranks {
		for j, b := range ranks {
			if got := moves.Same([]api.Move{{Child: 1, Rank: a}}, []api.Move{{Child: 1, Rank: b}}); got != (i == j) {
				t.Errorf("Same of ranks %v, %v: %v", a, b, got)
			}
		}
	}
	none := math.Float64frombits(0xfff8000000000123)
	if !moves.Same([]api.Move{{Rank: none}}, []api.Move{{Rank: math.NaN()}}) {
		t.Error("not Same: two of no number")
	}
}

// P13.2: Insert, by hand: the example, and lists that may not be.
func TestInsert(t *testing.T) {
	for _, c := range []struct {
		l     []api.Move
		t     api.Time
		place int
		fresh bool
	}{
		{list(1, 1, 3, 1), at(2, 1), 1, true}, {nil, at(2, 1), 0, true}, {nil, at(0, 0), 0, true}, {list(1, 1, 3, 1), at(3, 1), 1, false}, {list(1, 1, 3, 1), at(1, 1), 0, false}, {list(1, 1, 3, 1), at(3, 2), 2, true}, {list(1, 1, 3, 1), at(3, 0), 1, true}, {list(1, 1, 3, 1), at(1, 0), 0, true},
		{list(1, 2, 1, 4), at(1, 3), 1, true}, {list(1, 2, 1, 4), at(1, 1), 0, true}, {list(1, 2, 1, 4), at(1, 5), 2, true}, {list(1, 255, 2, 1), at(2, 0), 1, true}, {list(1, 255, 2, 1), at(1, 256), 1, true},
		{list(1, 1, topCounter, 255), at(topCounter, 254), 1, true}, {list(1, 1), at(math.MaxInt, 1), 1, true}, {list(1, 1), at(math.MinInt, 1), 0, true}, {list(1, 1), at(1, math.MinInt), 0, true}, {list(-5, 1), at(-6, 9), 0, true}, {list(0, 0), at(0, 0), 0, false},
		{list(5, 1, 2, 1, 4, 1), at(3, 1), 0, true}, {list(2, 1, 5, 1, 4, 1, 6, 1), at(4, 1), 2, false}, {list(2, 1, 5, 1, 4, 1, 6, 1), at(5, 2), 3, true}, {list(5, 1, 2, 1), at(9, 1), 2, true}, {list(5, 1, 2, 1, 5, 1, 2, 1), at(2, 1), 1, false}, {list(3, 1, 1, 1), at(1, 1), 1, false},
	} {
		m := api.Move{Time: c.t, Child: 77, Parent: 78, Name: "new", Rank: -1}
		want := slices.Clone(c.l)
		if c.fresh {
			want = slices.Insert(want, c.place, m)
		}
		got, place, fresh := moves.Insert(c.l, m)
		if !slices.Equal(got, want) || place != c.place || fresh != c.fresh {
			t.Errorf("Insert of %v, %v: %v, %d, %v", c.l, c.t, got, place, fresh)
		}
	}
}

// P13.2 and P13.3: Insert and Since of all short lists, and that neither changes what it was handed.
func TestLists(t *testing.T) {
	for l := range lists {
		was := slices.Clone(l)
		for when := range between {
			m := api.Move{Time: when, Child: 77, Parent: 78, Name: "new", Rank: -1}
			want, wantPlace, wantFresh := insert(was, m)
			if got, place, fresh := moves.Insert(l, m); !slices.Equal(got, want) || place != wantPlace || fresh != wantFresh {
				t.Fatalf("Insert of %v, %v: %v, %d, %v", was, when, got, place, fresh)
			}
			since := slices.DeleteFunc(slices.Clone(was), func(m api.Move) bool { return !before(when, m.Time) })
			if got := moves.Since(l, when); !slices.Equal(got, since) {
				t.Fatalf("Since of %v, %v: %v", was, when, got)
			}
		}
		if !slices.Equal(l, was) {
			t.Fatalf("%v changed: %v", was, l)
		}
	}
}

// P13.3: Since, by hand.
func TestSince(t *testing.T) {
	l := list(1, 9, 2, 255, 3, 1, 3, 2, topCounter, 1)
	for when, from := range map[api.Time]int{
		{}: 0, at(1, 8): 0, at(1, 9): 1, at(1, 10): 1, at(2, 254): 1, at(2, 255): 2, at(2, 256): 2, at(3, 0): 2, at(3, 1): 3, at(3, 2): 4, at(3, 255): 4, at(topCounter, 0): 4, at(topCounter, 1): 5, at(topCounter+1, 0): 5, at(math.MaxInt, math.MaxInt): 5, at(math.MinInt, 0): 0, at(-1, 99): 0,
	} {
		if got := moves.Since(l, when); !slices.Equal(got, l[from:]) {
			t.Errorf("Since %v: %v", when, got)
		}
	}
	// Of moves in no order none is missed, and they keep theirs; one Time may stand twice.
	mixed := list(5, 1, 1, 1, 4, 1, 2, 1, 4, 1, 3, 1)
	if got, want := moves.Since(mixed, at(2, 9)), []api.Move{mixed[0], mixed[2], mixed[4], mixed[5]}; !slices.Equal(got, want) {
		t.Errorf("Since of moves in no order: %v", got)
	}
	if got := moves.Since(nil, at(-1, 0)); len(got) != 0 {
		t.Errorf("Since of nothing: %v", got)
	}
}

// P13.3: Union of all short lists with all that are not long, and that neither is changed.
func TestUnion(t *testing.T) {
	var short [][]api.Move
	for l := range lists {
		if len(l) == 3 {
			break
		}
		for i := range l {
			l[i].Name = "b"
		}
		short = append(short, l)
	}
	short = append(short, list(2, 1, 1, 1, 3, 0, 1, 1), list(3, 3, 2, 2, 1, 1, 0, 0, -1, -1), list(1, 2, 1, 0, 1, 4, 1, 3))
	for a := range lists {
		was := slices.Clone(a)
		for _, b := range short {
			wasB := slices.Clone(b)
			want := slices.Clone(was)
			for _, m := range b {
				want, _, _ = insert(want, m)
			}
			if got := moves.Union(a, b); !slices.Equal(got, want) {
				t.Fatalf("Union of %v, %v: %v", was, b, got)
			}
			if !slices.Equal(a, was) || !slices.Equal(b, wasB) {
				t.Fatalf("%v, %v changed: %v, %v", was, wasB, a, b)
			}
		}
	}
	// What has a Time already stays: of a ahead of b's, and the first one of b.
	a, b := list(1, 1, 2, 1), list(2, 1, 3, 1, 3, 1)
	if got, want := moves.Union(a, b), []api.Move{a[0], a[1], b[1]}; !slices.Equal(got, want) {
		t.Errorf("Union of one Time: %v", got)
	}
	if got := moves.Union(nil, nil); len(got) != 0 {
		t.Errorf("Union of nothing: %v", got)
	}
}

// P13.4: of moves that may be come moves that may be, as long as there are not too many.
func TestMayStays(t *testing.T) {
	var may [][]api.Move
	for l := range lists {
		if moves.May(l) {
			may = append(may, l)
		}
	}
	for _, a := range may {
		for when := range between {
			if m := (api.Move{Time: when, Child: 1}); moves.One(m) {
				if got, _, _ := moves.Insert(a, m); !moves.May(got) {
					t.Errorf("Insert of %v, %v: %v", a, when, got)
				}
			}
			if got := moves.Since(a, when); !moves.May(got) {
				t.Errorf("Since of %v, %v: %v", a, when, got)
			}
		}
		for _, b := range may {
			if got := moves.Union(a, b); !moves.May(got) {
				t.Errorf("Union of %v, %v: %v", a, b, got)
			}
		}
	}
	full := rising(2000)
	if got, place, fresh := moves.Insert(full, api.Move{Time: at(2000, 255), Child: 1}); moves.May(got) || !moves.May(got[1:]) || place != 2000 || !fresh {
		t.Errorf("Insert behind 2000: %d moves, %d, %v", len(got), place, fresh)
	}
	if got, place, fresh := moves.Insert(full, full[1999]); !moves.May(got) || place != 1999 || fresh {
		t.Errorf("Insert among 2000: %d moves, %d, %v", len(got), place, fresh)
	}
	if got := moves.Union(full[:1000], full[500:]); !slices.Equal(got, full) {
		t.Errorf("Union of two that share 500: %d moves", len(got))
	}
}

// orders goes by all orders in which l may stand.
func orders(l []api.Move, yield func([]api.Move) bool) bool {
	if len(l) == 0 {
		return yield(nil)
	}
	for i, m := range l {
		rest := slices.Delete(slices.Clone(l), i, i+1)
		if !orders(rest, func(order []api.Move) bool { return yield(append(order, m)) }) {
			return false
		}
	}
	return true
}

// P13.4: in whatever order moves are inserted, and however often, they are the same.
func TestOrders(t *testing.T) {
	l := list(1, 1, 1, 2, 2, 1, 2, 3, 3, 1, topCounter, 255)
	seen := 0
	orders(l, func(order []api.Move) bool {
		seen++
		var got, twice []api.Move
		for i, m := range order {
			var fresh, again bool
			got, _, fresh = moves.Insert(got, m)
			twice, _, _ = moves.Insert(twice, m)
			twice, _, again = moves.Insert(twice, order[i/2])
			if !fresh || again {
				t.Errorf("Insert of %v: %v, %v", m, fresh, again)
			}
		}
		if !slices.Equal(got, l) || !slices.Equal(twice, l) || !slices.Equal(moves.Union(order[:3], nil), order[:3]) || !slices.Equal(moves.Union(nil, order), l) {
			t.Errorf("in the order of %v: %v", order, got)
		}
		return !t.Failed()
	})
	if seen != 720 {
		t.Errorf("%d orders", seen)
	}
}

// R5: what is told is new memory, or just what was handed in; room behind what was handed in is not written to.
func TestRoom(t *testing.T) {
	room := list(1, 1, 3, 1, 5, 1, 7, 1)
	was := slices.Clone(room)
	for count := range len(room) {
		for counter := range 9 {
			m := api.Move{Time: at(counter, 1), Child: 9, Name: "new"}
			got, _, fresh := moves.Insert(room[:count], m)
			union := moves.Union(room[:count], []api.Move{m, {Time: at(counter, 2), Child: 8}, {Time: at(counter, 0), Child: 7}})
			since := moves.Since(room[:count], at(counter, 1))
			kept := slices.Clone(union)
			if !slices.Equal(room, was) {
				t.Fatalf("Insert of %d in %d changes %v", counter, count, room)
			}
			for i := range since {
				since[i] = api.Move{}
			}
			if fresh {
				for i := range got {
					got[i] = api.Move{}
				}
				_ = append(got, m, m)
			}
			if !slices.Equal(room, was) || !slices.Equal(union, kept) {
				t.Fatalf("what %d in %d tells is shared: %v", counter, count, room)
			}
		}
	}
	// What was told once is not changed by what is told next from it.
	base, _, _ := moves.Insert(room[:2], api.Move{Time: at(2, 1)})
	one, _, _ := moves.Insert(base, api.Move{Time: at(8, 1), Name: "one"})
	two, _, _ := moves.Insert(base, api.Move{Time: at(8, 1), Name: "two"})
	if one[3].Name != "one" || two[3].Name != "two" || len(base) != 3 {
		t.Errorf("two Inserts share: %v, %v", one, two)
	}
}

// R5 and R6: no call changes what it is handed, and none hangs on what was called ahead.
func TestAgain(t *testing.T) {
	l := list(3, 1, 1, 1, 1, 1, 2, 9)
	was := slices.Clone(l)
	all := func() string {
		dup, dupAt, dupFresh := moves.Insert(l, l[2])
		in, inAt, inFresh := moves.Insert(l, api.Move{Time: at(2, 1)})
		return fmt.Sprint(moves.One(l[0]), moves.May(l), moves.May(l[:1]), moves.Row(l[1]), dup, dupAt, dupFresh, in, inAt, inFresh, moves.Since(l, at(1, 1)), moves.Union(l, list(5, 5, 1, 1, 0, 0)), moves.Same(l, was))
	}
	first := all()
	for range 3 {
		if again := all(); again != first || !slices.Equal(l, was) {
			t.Errorf("%s, again %s", first, again)
		}
		moves.Insert(list(9, 9), l[0])
		moves.Union(nil, list(2, 2, 1, 1))
	}
}
