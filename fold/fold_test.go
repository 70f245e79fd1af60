package fold_test

import (
	"fmt"
	"math"
	"slices"
	"testing"

	"bonsai/api"
	"bonsai/bits"
	"bonsai/fold"
	"bonsai/moves"
	"bonsai/tree"
)

// numbers goes without an end by numbers that look like chance, and are the same each time.
func numbers() func() uint64 {
	u := uint64(0x9e3779b97f4a7c15)
	return func() uint64 {
		u = u*6364136223846793005 + 1442695040888963407
		return u ^ u>>29
	}
}

// rows makes rows of Children and Parents, one behind the other.
func rows(nodes ...int) []api.Row {
	var l []api.Row
	for i := 0; i < len(nodes); i += 2 {
		l = append(l, api.Row{Child: nodes[i], Parent: nodes[i+1], Name: fmt.Sprint("n", i/2), Rank: float64(i)})
	}
	return l
}

// move makes one that lays child below parent.
func move(child int, parent int) api.Move {
	return api.Move{Time: api.Time{Counter: 7, Replica: 3}, Child: child, Parent: parent, Name: "moved", Rank: -2}
}

// list makes moves of Children and Parents, one behind the other, each with a Name of its own.
func list(nodes ...int) []api.Move {
	var l []api.Move
	for i := 0; i < len(nodes); i += 2 {
		m := move(nodes[i], nodes[i+1])
		m.Time.Counter, m.Name = i/2+1, fmt.Sprint("m", i/2)
		l = append(l, m)
	}
	return l
}

// lists goes by all lists of up to four rows of which Child and Parent are 0 to 3, in each order, and with each Child as
// often as there is room; no list is told twice.
func lists(yield func([]api.Row) bool) {
	all := [][]int{nil}
	for begin := 0; begin < len(all); begin++ {
		if !yield(rows(all[begin]...)) {
			return
		}
		if len(all[begin]) == 8 {
			continue
		}
		for child := range 4 {
			for parent := range 4 {
				all = append(all, append(slices.Clone(all[begin]), child, parent))
			}
		}
	}
}

// above tells by the document's words whether a is above b; beyond as many steps as there are rows all comes again.
func above(l []api.Row, a int, b int) bool {
	for range len(l) + 1 {
		at := slices.IndexFunc(l, func(r api.Row) bool { return r.Child == b })
		if at < 0 {
			return false
		}
		b = l[at].Parent
		if b == a {
			return true
		}
	}
	return false
}

// barred tells by the document's words whether m is barred in l.
func barred(l []api.Row, m api.Move) bool {
	return m.Child == m.Parent || m.Child == 0 || above(l, m.Child, m.Parent)
}

// do tells by the document's words what m makes of l.
func do(l []api.Row, m api.Move) ([]api.Row, bool) {
	l = slices.Clone(l)
	if barred(l, m) {
		return l, false
	}
	r := api.Row{Child: m.Child, Parent: m.Parent, Name: m.Name, Rank: m.Rank}
	if at := slices.IndexFunc(l, func(s api.Row) bool { return s.Child == r.Child }); at >= 0 {
		l[at] = r
		return l, true
	}
	at := slices.IndexFunc(l, func(s api.Row) bool { return s.Child > r.Child })
	if at < 0 {
		at = len(l)
	}
	return slices.Insert(l, at, r), true
}

// nodes tells the Children and Parents of l, one behind the other.
func nodes(l []api.Row) []int {
	var all []int
	for _, r := range l {
		all = append(all, r.Child, r.Parent)
	}
	return all
}

// P14.1: Barred and Do, by hand; where nothing is wanted the move is barred.
func TestDo(t *testing.T) {
	high, low := math.MaxInt, math.MinInt
	for _, c := range []struct {
		l    []int
		m    api.Move
		want []int
	}{
		{nil, move(1, 0), []int{1, 0}}, {nil, move(1, 9), []int{1, 9}}, {nil, move(high, low), []int{high, low}}, {nil, move(-1, 0), []int{-1, 0}}, {nil, move(1, -1), []int{1, -1}},
		{nil, move(1, 1), nil}, {nil, move(0, 0), nil}, {nil, move(0, 1), nil}, {nil, move(0, -1), nil}, {nil, move(-1, -1), nil}, {nil, move(high, high), nil}, {nil, move(low, low), nil},
		{[]int{1, 0, 2, 1}, move(1, 2), nil}, {[]int{1, 0, 2, 1}, move(0, 5), nil}, {[]int{1, 0, 2, 1}, move(0, 2), nil}, {[]int{1, 0, 2, 1}, move(2, 2), nil}, {[]int{1, 0, 2, 1, 3, 2}, move(1, 3), nil}, {[]int{1, 0, 2, 1, 3, 2}, move(2, 3), nil}, {[]int{1, 9, 2, 1}, move(9, 2), nil}, {[]int{1, 9, 2, 1}, move(9, 1), nil},
		{[]int{1, 0, 2, 0}, move(2, 1), []int{1, 0, 2, 1}}, {[]int{1, 0, 2, 1}, move(2, 1), []int{1, 0, 2, 1}}, {[]int{1, 0, 2, 1}, move(2, 0), []int{1, 0, 2, 0}}, {[]int{2, 0}, move(1, 2), []int{1, 2, 2, 0}}, {[]int{1, 0, 2, 1, 3, 2}, move(3, 1), []int{1, 0, 2, 1, 3, 1}}, {[]int{1, 0, 2, 1}, move(3, 2), []int{1, 0, 2, 1, 3, 2}}, {[]int{1, 0}, move(2, 77), []int{1, 0, 2, 77}},
		// Rows that are no tree: of two of one Child the first one counts; some nodes are above themselves.
		{[]int{2, 1, 2, 0}, move(1, 2), nil}, {[]int{2, 0, 2, 1}, move(1, 2), []int{1, 2, 2, 0, 2, 1}}, {[]int{2, 0, 2, 1}, move(2, 3), []int{2, 3, 2, 1}}, {[]int{5, 0, 3, 0}, move(4, 0), []int{4, 0, 5, 0, 3, 0}},
		{[]int{1, 1}, move(1, 0), []int{1, 0}}, {[]int{1, 1}, move(1, 2), []int{1, 2}}, {[]int{3, 3}, move(1, 3), []int{1, 3, 3, 3}}, {[]int{1, 2, 2, 1}, move(2, 1), nil}, {[]int{1, 2, 2, 1}, move(2, 0), []int{1, 2, 2, 0}}, {[]int{0, 1}, move(1, 0), nil},
	} {
		l, want, is := rows(c.l...), c.want, c.want != nil
		if !is {
			want = c.l
		}
		if got := fold.Barred(l, c.m); got == is {
			t.Errorf("Barred of %v, %+v: %v", c.l, c.m, got)
		}
		got, done := fold.Do(l, c.m)
		if done != is || !slices.Equal(nodes(got), want) || slices.Contains(got, moves.Row(c.m)) != is {
			t.Errorf("Do of %v, %+v: %v, %v", c.l, c.m, got, done)
		}
	}
	// All of the move but its Time is set; one that is done in its place changes its Name and its Rank, too.
	l := rows(1, 0, 2, 1, 3, 0)
	m := api.Move{Time: api.Time{Counter: 1, Replica: 1}, Child: 2, Parent: 1, Name: "b", Rank: math.Copysign(0, -1)}
	if got, is := fold.Do(l, m); !is || !tree.Same(got, []api.Row{l[0], {Child: 2, Parent: 1, Name: "b", Rank: math.Copysign(0, -1)}, l[2]}) {
		t.Errorf("Do in its place: %v, %v", got, is)
	}
	m.Rank, m.Name, m.Parent = math.NaN(), "\xff", 3
	if got, is := fold.Do(l, m); !is || !tree.Same(got, []api.Row{l[0], {Child: 2, Parent: 3, Name: "\xff", Rank: math.NaN()}, l[2]}) {
		t.Errorf("Do of no number: %v, %v", got, is)
	}
}

// P14.1: Barred and Do of all short lists, and that neither changes what it was handed.
func TestLists(t *testing.T) {
	for l := range lists {
		was := slices.Clone(l)
		for child := -1; child <= 4; child++ {
			for parent := -1; parent <= 4; parent++ {
				m := move(child, parent)
				if got, want := fold.Barred(l, m), barred(was, m); got != want {
					t.Fatalf("Barred of %v, %+v: %v", was, m, got)
				}
				want, wantIs := do(was, m)
				if got, is := fold.Do(l, m); !slices.Equal(got, want) || is != wantIs {
					t.Fatalf("Do of %v, %+v: %v, %v", was, m, got, is)
				}
			}
		}
		if !slices.Equal(l, was) {
			t.Fatalf("%v changed: %v", was, l)
		}
	}
}

// P14.2: All, by hand: the example, and others.
func TestAll(t *testing.T) {
	for _, c := range []struct {
		l    []api.Row
		m    []api.Move
		want []int
	}{
		{nil, nil, nil}, {nil, list(1, 0, 2, 1, 1, 2), []int{1, 0, 2, 1}}, {nil, list(1, 0, 2, 0, 1, 2, 2, 1), []int{1, 2, 2, 0}}, {nil, list(1, 0, 2, 0, 2, 1, 1, 2), []int{1, 0, 2, 1}},
		{rows(1, 0, 2, 1), nil, []int{1, 0, 2, 1}}, {rows(1, 0, 2, 1), list(1, 2, 2, 0, 1, 2), []int{1, 2, 2, 0}}, {rows(1, 0, 2, 1), list(2, 0, 1, 2, 2, 1), []int{1, 2, 2, 0}}, {rows(1, 0), list(1, 1, 0, 1, 0, 0), []int{1, 0}}, {nil, list(3, 2, 2, 1, 1, 3, 1, 0), []int{1, 0, 2, 1, 3, 2}},
		{rows(3, 0, 1, 0), list(2, 3, 1, 2), []int{2, 3, 3, 0, 1, 2}},
	} {
		if got := nodes(fold.All(c.l, c.m)); !slices.Equal(got, c.want) {
			t.Errorf("All of %v, %v: %v", c.l, c.m, got)
		}
	}
	// Of two moves of one node the later one's Name and Rank count, and just those of one that is done.
	m := list(1, 0, 2, 1, 2, 0, 2, 2)
	if got := fold.All(nil, m); !slices.Equal(got, []api.Row{moves.Row(m[0]), moves.Row(m[2])}) {
		t.Errorf("All of %v: %v", m, got)
	}
}

// some makes count moves of nodes up to top, in the order of their Times.
func some(next func() uint64, count int, top uint64) []api.Move {
	var l []api.Move
	for i := range count {
		l = append(l, api.Move{Time: api.Time{Counter: i + 1, Replica: 1}, Child: int(next()%top) + 1, Parent: int(next() % (top + 2)), Name: fmt.Sprint("m", i), Rank: float64(next() % 3)})
	}
	return l
}

// P14.2: All of many moves, of trees and of rows that are none.
func TestMany(t *testing.T) {
	next := numbers()
	for range 400 {
		var l []api.Row
		for range next() % 6 {
			l = append(l, api.Row{Child: int(next()%8) - 1, Parent: int(next()%8) - 1, Name: "was"})
		}
		m := some(next, int(next()%30), 7)
		for range next() % 4 {
			m = append(m, move(int(next()%9)-2, int(next()%9)-2))
		}
		wasL, wasM := slices.Clone(l), slices.Clone(m)
		want := slices.Clone(l)
		for _, one := range m {
			want, _ = do(want, one)
		}
		if got := fold.All(l, m); !slices.Equal(got, want) {
			t.Fatalf("All of %v, %v: %v, not %v", l, m, got, want)
		}
		if !slices.Equal(l, wasL) || !slices.Equal(m, wasM) {
			t.Fatalf("%v, %v changed: %v, %v", wasL, wasM, l, m)
		}
	}
}

// P14.3: Nodes.
func TestNodes(t *testing.T) {
	far, low := math.MaxInt, math.MinInt
	for _, c := range []struct {
		l    []api.Row
		m    []api.Move
		want []int
	}{
		{nil, nil, []int{0}}, {[]api.Row{}, []api.Move{}, []int{0}}, {rows(1, 0), nil, []int{0, 1}}, {nil, list(1, 0), []int{0, 1}}, {rows(1, 9), nil, []int{0, 1, 9}}, {nil, list(1, 9), []int{0, 1, 9}}, {rows(0, 0), list(0, 0), []int{0}},
		{rows(5, 3, 3, 5), list(4, 3, 3, 4), []int{0, 3, 4, 5}}, {rows(9, 8, 7, 6), list(5, 4, 3, 2), []int{0, 2, 3, 4, 5, 6, 7, 8, 9}}, {rows(2, 3), list(1, 4), []int{0, 1, 2, 3, 4}}, {rows(1, 2, 1, 3), list(1, 4, 1, 5), []int{0, 1, 2, 3, 4, 5}},
		{nil, list(1, 1, 2, 2), []int{0, 1, 2}}, {rows(7, 7), nil, []int{0, 7}}, {rows(-1, -3), list(-2, 5), []int{-3, -2, -1, 0, 5}}, {rows(far, low), list(far-1, low+1), []int{low, low + 1, 0, far - 1, far}}, {nil, list(0, 7), []int{0, 7}},
	} {
		wasL, wasM := slices.Clone(c.l), slices.Clone(c.m)
		if got := fold.Nodes(c.l, c.m); !slices.Equal(got, c.want) {
			t.Errorf("Nodes of %v, %v: %v", c.l, c.m, got)
		}
		if !slices.Equal(c.l, wasL) || !slices.Equal(c.m, wasM) {
			t.Errorf("%v, %v changed", c.l, c.m)
		}
	}
	// Of many, none is told twice, and they rise.
	next := numbers()
	for range 50 {
		m := some(next, 200, 150)
		l := fold.All(nil, m)
		named := map[int]bool{}
		for _, one := range m {
			named[one.Child], named[one.Parent] = true, true
		}
		got := fold.Nodes(l, m)
		if !slices.IsSorted(got) || len(slices.Compact(slices.Clone(got))) != len(got) || got[0] != 0 {
			t.Fatalf("Nodes of %v: %v", m, got)
		}
		delete(named, 0)
		if len(got) != len(named)+1 {
			t.Fatalf("Nodes of %v: %d, not %d", m, len(got), len(named)+1)
		}
		for _, node := range got[1:] {
			if !named[node] {
				t.Fatalf("Nodes of %v: %d", m, node)
			}
		}
	}
}

// P14.4: of a tree comes a tree; a node that was moved once is somewhere for ever; what was done last, done again, leaves
// the tree as it is; the moves that were barred may be left out.
func TestFollows(t *testing.T) {
	next := numbers()
	stopped, went := 0, 0
	for range 300 {
		m := some(next, 60, 12)
		base := fold.All(nil, m[:20])
		l := base
		var done []api.Move
		for _, one := range m[20:] {
			had := slices.Clone(l)
			got, is := fold.Do(l, one)
			if !tree.May(got) {
				t.Fatalf("no tree: %v", got)
			}
			for _, r := range had {
				if _, has := tree.Find(got, r.Child); !has {
					t.Fatalf("%d is gone: %v", r.Child, got)
				}
			}
			if r, has := tree.Find(got, one.Child); is && (!has || r != moves.Row(one)) {
				t.Fatalf("%+v was done: %v", one, got)
			}
			if !is {
				stopped++
				l = got
				continue
			}
			went++
			done = append(done, one)
			if again, is := fold.Do(got, one); !is || !tree.Same(again, got) {
				t.Fatalf("%+v again: %v, not %v, %v", one, again, got, is)
			}
			l = got
		}
		if all, some := fold.All(base, m[20:]), fold.All(base, done); !tree.Same(all, l) || !tree.Same(some, l) {
			t.Fatalf("of %v: %v, %v, %v", m, l, all, some)
		}
	}
	if stopped < 1000 || went < 1000 {
		t.Errorf("%d barred, %d done", stopped, went)
	}
}

// P14.4: as long as there is room: 2000 rows take no node more, but each of theirs may be moved.
func TestRoom(t *testing.T) {
	var m []api.Move
	for i := range 2000 {
		m = append(m, api.Move{Time: api.Time{Counter: i + 1, Replica: 1}, Child: i + 1, Parent: i})
	}
	l := fold.All(nil, m)
	if !tree.May(l) || len(l) != 2000 {
		t.Fatalf("%d rows", len(l))
	}
	if got, is := fold.Do(l, move(1, 2000)); is || len(got) != 2000 {
		t.Errorf("1 below 2000: %d rows, %v", len(got), is)
	}
	if got, is := fold.Do(l, move(2000, 0)); !is || !tree.May(got) {
		t.Errorf("2000 below Root: %d rows, %v", len(got), is)
	}
	if got, is := fold.Do(l, move(2001, 0)); !is || tree.May(got) || len(got) != 2001 {
		t.Errorf("2001 below Root: %d rows, %v", len(got), is)
	}
}

// R5: what is told is new memory, or just what was handed in; room behind what was handed in is not written to.
func TestApart(t *testing.T) {
	room := rows(1, 0, 3, 1, 5, 1, 7, 5)
	was := slices.Clone(room)
	for count := range len(room) {
		for child := range 9 {
			for parent := range 9 {
				m := move(child, parent)
				got, is := fold.Do(room[:count], m)
				all := fold.All(room[:count], []api.Move{m, move(8, 0), move(2, 8), m})
				nodes := fold.Nodes(room[:count], []api.Move{m})
				kept := slices.Clone(all)
				if !slices.Equal(room, was) {
					t.Fatalf("%+v changes %v", m, room)
				}
				nodes[0] = 99
				if is {
					for i := range got {
						got[i] = api.Row{}
					}
					_ = append(got, api.Row{Child: 99})
				}
				if !slices.Equal(room, was) || !slices.Equal(all, kept) || fold.Nodes(room[:count], nil)[0] != 0 {
					t.Fatalf("what %+v makes is shared: %v", m, room)
				}
			}
		}
	}
	// What was told once is not changed by what is told next from it.
	base, _ := fold.Do(room[:2], move(2, 0))
	one, _ := fold.Do(base, move(9, 1))
	two, _ := fold.Do(base, move(9, 2))
	if one[3].Parent != 1 || two[3].Parent != 2 || len(base) != 3 {
		t.Errorf("two share: %v, %v", one, two)
	}
}

// R5 and R6: no call changes what it is handed, and none hangs on what was called ahead.
func TestAgain(t *testing.T) {
	l := []api.Row{{Child: 3, Parent: 1, Rank: 2}, {Child: 1, Rank: math.NaN()}, {Child: 1, Parent: 3}, {Child: 5, Parent: 5}}
	m := list(2, 0, 1, 2, 2, 1, 5, 3, 3, 5, 0, 9, 4, 4)
	wasL, wasM := slices.Clone(l), slices.Clone(m)
	all := func() string {
		done, is := fold.Do(l, m[0])
		same, not := fold.Do(l, m[6])
		return fmt.Sprint(done, is, same, not, fold.All(l, m), fold.Barred(l, m[1]), fold.Barred(l, move(1, 3)), fold.Nodes(l, m))
	}
	first := all()
	for range 3 {
		if again := all(); again != first || !slices.Equal(m, wasM) {
			t.Errorf("%s, again %s", first, again)
		}
		for i := range l {
			if l[i].Child != wasL[i].Child || l[i].Parent != wasL[i].Parent || bits.Bits(l[i].Rank) != bits.Bits(wasL[i].Rank) {
				t.Errorf("row %d changed: %v", i, l[i])
			}
		}
		fold.Nodes(rows(8, 6), m)
		fold.All(nil, m)
	}
}
