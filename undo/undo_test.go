package undo_test

import (
	"fmt"
	"math"
	"slices"
	"testing"

	"bonsai/api"
	"bonsai/bits"
	"bonsai/fold"
	"bonsai/moves"
	"bonsai/tree"
	"bonsai/undo"
)

// numbers goes without an end by numbers that look like chance, and are the same each time.
func numbers() func() uint64 {
	u := uint64(0x9e3779b97f4a7c15)
	return func() uint64 {
		u = u*6364136223846793005 + 1442695040888963407
		return u ^ u>>29
	}
}

// rows makes rows of Children and Parents, one behind the other, each with a Name of its own.
func rows(nodes ...int) []api.Row {
	var l []api.Row
	for i := 0; i < len(nodes); i += 2 {
		l = append(l, api.Row{Child: nodes[i], Parent: nodes[i+1], Name: fmt.Sprint("n", i/2), Rank: float64(i)})
	}
	return l
}

// move makes one that lays child below parent.
func move(child int, parent int) api.Move {
	return api.Move{Time: api.Time{Counter: 7, Replica: 3}, Child: child, Parent: parent, Name: "moved", Rank: -2}
}

// list makes moves of Children and Parents, one behind the other, each with a Name of its own.
func list(nodes ...int) []api.Move {
	var l []api.Move
	for i := 0; i < len(nodes); i += 2 {
		m := move(nodes[i], nodes[i+1])
		m.Time.Counter, m.Name = i/2+1, fmt.Sprint("m", i/2)
		l = append(l, m)
	}
	return l
}

// lists goes by all lists of up to three rows of which Child and Parent are 0 to 3, in each order, and with each Child as
// often as there is room; no list is told twice.
func lists(yield func([]api.Row) bool) {
	all := [][]int{nil}
	for begin := 0; begin < len(all); begin++ {
		if !yield(rows(all[begin]...)) {
			return
		}
		if len(all[begin]) == 6 {
			continue
		}
		for child := range 4 {
			for parent := range 4 {
				all = append(all, append(slices.Clone(all[begin]), child, parent))
			}
		}
	}
}

// first tells by the document's words the place of the first row of that Child, or -1.
func first(l []api.Row, child int) int {
	return slices.IndexFunc(l, func(r api.Row) bool { return r.Child == child })
}

// set tells by the document's words l with r in it.
func set(l []api.Row, r api.Row) []api.Row {
	l = slices.Clone(l)
	if at := first(l, r.Child); at >= 0 {
		l[at] = r
		return l
	}
	at := slices.IndexFunc(l, func(s api.Row) bool { return s.Child > r.Child })
	if at < 0 {
		at = len(l)
	}
	return slices.Insert(l, at, r)
}

// barred tells by the document's words whether m is barred in l; beyond as many steps as there are rows all comes again.
func barred(l []api.Row, m api.Move) bool {
	if m.Child == m.Parent || m.Child == 0 {
		return true
	}
	node := m.Parent
	for range len(l) + 1 {
		at := first(l, node)
		if at < 0 {
			return false
		}
		node = l[at].Parent
		if node == m.Child {
			return true
		}
	}
	return false
}

// do tells by the document's words what m makes of l, and its step.
func do(l []api.Row, m api.Move) ([]api.Row, api.Step) {
	if barred(l, m) {
		return slices.Clone(l), api.Step{Move: m}
	}
	s := api.Step{Move: m, Moved: true}
	if at := first(l, m.Child); at >= 0 {
		s.Had, s.Old = true, l[at]
	}
	return set(l, api.Row{Child: m.Child, Parent: m.Parent, Name: m.Name, Rank: m.Rank}), s
}

// back tells by the document's words l ahead of s.
func back(l []api.Row, s api.Step) []api.Row {
	if s.Moved && s.Had {
		return set(l, s.Old)
	}
	l = slices.Clone(l)
	if at := first(l, s.Move.Child); s.Moved && at >= 0 {
		return slices.Delete(l, at, at+1)
	}
	return l
}

// nodes tells the Children and Parents of l, one behind the other.
func nodes(l []api.Row) []int {
	var all []int
	for _, r := range l {
		all = append(all, r.Child, r.Parent)
	}
	return all
}

// P15.1: Do, by hand; old is the place in l of the row that the Child had, or -1.
func TestDo(t *testing.T) {
	high, low := math.MaxInt, math.MinInt
	for _, c := range []struct {
		l     []int
		m     api.Move
		want  []int
		moved bool
		old   int
	}{
		{nil, move(1, 0), []int{1, 0}, true, -1}, {nil, move(1, 9), []int{1, 9}, true, -1}, {nil, move(high, low), []int{high, low}, true, -1}, {nil, move(-1, 0), []int{-1, 0}, true, -1},
		{nil, move(1, 1), nil, false, -1}, {nil, move(0, 0), nil, false, -1}, {nil, move(0, 1), nil, false, -1}, {nil, move(-1, -1), nil, false, -1}, {nil, move(low, low), nil, false, -1},
		{[]int{1, 0, 2, 1}, move(2, 0), []int{1, 0, 2, 0}, true, 1}, {[]int{1, 0, 2, 0}, move(1, 2), []int{1, 2, 2, 0}, true, 0}, {[]int{1, 0, 2, 1}, move(2, 1), []int{1, 0, 2, 1}, true, 1}, {[]int{2, 0}, move(1, 2), []int{1, 2, 2, 0}, true, -1}, {[]int{1, 0, 3, 0}, move(2, 3), []int{1, 0, 2, 3, 3, 0}, true, -1}, {[]int{1, 0}, move(2, 7), []int{1, 0, 2, 7}, true, -1},
		// Had and Old are told of what was done alone.
		{[]int{1, 0, 2, 1}, move(1, 2), []int{1, 0, 2, 1}, false, -1}, {[]int{1, 0, 2, 1}, move(2, 2), []int{1, 0, 2, 1}, false, -1}, {[]int{1, 0, 2, 1, 3, 2}, move(1, 3), []int{1, 0, 2, 1, 3, 2}, false, -1}, {[]int{0, 5}, move(0, 1), []int{0, 5}, false, -1}, {[]int{1, 9, 2, 1}, move(9, 2), []int{1, 9, 2, 1}, false, -1},
		// Rows that are no tree: of two of one Child the first one counts.
		{[]int{2, 1, 2, 0}, move(2, 3), []int{2, 3, 2, 0}, true, 0}, {[]int{5, 0, 3, 0, 3, 5}, move(3, 1), []int{5, 0, 3, 1, 3, 5}, true, 1}, {[]int{1, 1}, move(1, 0), []int{1, 0}, true, 0}, {[]int{1, 2, 2, 1}, move(2, 1), []int{1, 2, 2, 1}, false, -1}, {[]int{5, 0, 3, 0}, move(4, 0), []int{4, 0, 5, 0, 3, 0}, true, -1}, {[]int{-1, -2}, move(-1, -3), []int{-1, -3}, true, 0},
	} {
		l := rows(c.l...)
		want := api.Step{Move: c.m, Moved: c.moved}
		if c.old >= 0 {
			want.Had, want.Old = true, l[c.old]
		}
		got, s := undo.Do(l, c.m)
		if !slices.Equal(nodes(got), c.want) || s != want {
			t.Errorf("Do of %v, %+v: %v, %+v", c.l, c.m, got, s)
		}
		if done, is := fold.Do(l, c.m); !tree.Same(got, done) || s.Moved != is {
			t.Errorf("Do of %v, %+v: %v, not %v", c.l, c.m, got, done)
		}
		if ahead := undo.Undo(got, s); !slices.Equal(ahead, l) {
			t.Errorf("Undo of %v, %+v: %v", c.l, c.m, ahead)
		}
	}
}

// P15.1, P15.2: all of the move, and of the row that was there, is kept: Time, Name, and the Rank's bits.
func TestWhole(t *testing.T) {
	minus := math.Copysign(0, -1)
	l := []api.Row{{Child: 1, Name: "\xff", Rank: minus}, {Child: 2, Parent: 1, Name: "b", Rank: math.NaN()}}
	m := api.Move{Time: api.Time{Counter: math.MinInt, Replica: math.MaxInt}, Child: 1, Parent: 3, Name: "\xfe", Rank: math.NaN()}
	got, s := undo.Do(l, m)
	if s.Move.Time != m.Time || s.Move.Name != "\xfe" || !bits.Same(s.Move.Rank, m.Rank) || !s.Moved || !s.Had || s.Old != l[0] || !bits.Same(s.Old.Rank, minus) {
		t.Errorf("Do of %+v: %+v", m, s)
	}
	if again := undo.Undo(got, s); !tree.Same(again, l) {
		t.Errorf("Undo of %+v: %v", s, again)
	}
	m = api.Move{Child: 2, Parent: 1, Name: "b", Rank: minus}
	got, s = undo.Do(l, m)
	if !bits.Same(s.Move.Rank, minus) || !s.Had || !bits.Same(s.Old.Rank, math.NaN()) || !bits.Same(got[1].Rank, minus) {
		t.Errorf("Do of %+v: %v, %+v", m, got, s)
	}
	if again := undo.Undo(got, s); !tree.Same(again, l) {
		t.Errorf("Undo of %+v: %v", s, again)
	}
}

// P15.2: Undo, by hand, also of steps that were never done.
func TestUndo(t *testing.T) {
	old := func(child int) api.Row {
		return api.Row{Child: child, Parent: 8, Name: "old", Rank: math.Copysign(0, -1)}
	}
	l := rows(1, 0, 3, 1, 3, 0, 2, 1, 0, 3)
	for _, c := range []struct {
		s    api.Step
		want []int
	}{
		{api.Step{}, nodes(l)}, {api.Step{Move: move(1, 0)}, nodes(l)}, {api.Step{Move: move(1, 0), Had: true, Old: old(1)}, nodes(l)}, {api.Step{Move: move(1, 0), Old: old(1)}, nodes(l)},
		{api.Step{Move: move(1, 0), Moved: true}, []int{3, 1, 3, 0, 2, 1, 0, 3}}, {api.Step{Move: move(3, 0), Moved: true}, []int{1, 0, 3, 0, 2, 1, 0, 3}}, {api.Step{Move: move(2, 0), Moved: true, Old: old(1)}, []int{1, 0, 3, 1, 3, 0, 0, 3}}, {api.Step{Moved: true}, []int{1, 0, 3, 1, 3, 0, 2, 1}}, {api.Step{Move: move(7, 1), Moved: true}, nodes(l)}, {api.Step{Move: move(-1, 1), Moved: true, Old: old(3)}, nodes(l)},
		{api.Step{Move: move(1, 0), Moved: true, Had: true, Old: old(1)}, []int{1, 8, 3, 1, 3, 0, 2, 1, 0, 3}}, {api.Step{Move: move(3, 0), Moved: true, Had: true, Old: old(3)}, []int{1, 0, 3, 8, 3, 0, 2, 1, 0, 3}}, {api.Step{Move: move(4, 0), Moved: true, Had: true, Old: old(4)}, []int{1, 0, 3, 1, 3, 0, 2, 1, 0, 3, 4, 8}}, {api.Step{Move: move(-1, 0), Moved: true, Had: true, Old: old(-1)}, []int{-1, 8, 1, 0, 3, 1, 3, 0, 2, 1, 0, 3}},
		// What is set is Old, whatever node the move is of.
		{api.Step{Move: move(1, 0), Moved: true, Had: true, Old: old(2)}, []int{1, 0, 3, 1, 3, 0, 2, 8, 0, 3}}, {api.Step{Move: move(2, 0), Moved: true, Had: true, Old: old(9)}, []int{1, 0, 3, 1, 3, 0, 2, 1, 0, 3, 9, 8}}, {api.Step{Moved: true, Had: true}, []int{1, 0, 3, 1, 3, 0, 2, 1, 0, 0}},
	} {
		was := slices.Clone(l)
		got := undo.Undo(l, c.s)
		if !slices.Equal(nodes(got), c.want) || !slices.Equal(l, was) {
			t.Errorf("Undo of %+v: %v", c.s, got)
		}
		if at := first(got, c.s.Old.Child); c.s.Moved && c.s.Had && (got[at] != c.s.Old || !bits.Same(got[at].Rank, c.s.Old.Rank)) {
			t.Errorf("Undo of %+v: %v", c.s, got)
		}
		if at := undo.Back(l, []api.Step{c.s}); !slices.Equal(at, got) {
			t.Errorf("Back of %+v: %v", c.s, at)
		}
	}
	for _, s := range []api.Step{{}, {Moved: true}, {Had: true, Old: old(1)}} {
		if got := undo.Undo(nil, s); len(got) != 0 {
			t.Errorf("Undo of nothing, %+v: %v", s, got)
		}
	}
	if got := undo.Undo(nil, api.Step{Moved: true, Had: true, Old: old(1)}); len(got) != 1 || got[0] != old(1) {
		t.Errorf("Undo of nothing: %v", got)
	}
}

// P15.1, P15.2: Do and Undo of all short lists, and that neither changes what it was handed.
func TestLists(t *testing.T) {
	for l := range lists {
		was := slices.Clone(l)
		for child := -1; child <= 4; child++ {
			for parent := -1; parent <= 4; parent++ {
				m := move(child, parent)
				want, wantStep := do(was, m)
				got, s := undo.Do(l, m)
				if !slices.Equal(got, want) || s != wantStep {
					t.Fatalf("Do of %v, %+v: %v, %+v", was, m, got, s)
				}
				if again := undo.Undo(got, s); !slices.Equal(again, was) || !slices.Equal(got, want) {
					t.Fatalf("Undo of %v, %+v: %v", was, m, again)
				}
				// A step of other rows.
				for _, s := range []api.Step{{Move: m}, {Move: m, Moved: true}, {Move: m, Moved: true, Had: true, Old: api.Row{Child: parent, Name: "old"}}} {
					if got, want := undo.Undo(l, s), back(was, s); !slices.Equal(got, want) {
						t.Fatalf("Undo of %v, %+v: %v", was, s, got)
					}
				}
			}
		}
		if !slices.Equal(l, was) {
			t.Fatalf("%v changed: %v", was, l)
		}
	}
}

// P15.3: Run and Back, by hand: after each move stand what is wanted, and Back goes by each of these again.
func TestRun(t *testing.T) {
	for _, c := range []struct {
		l    []int
		m    []api.Move
		want [][]int
	}{
		{nil, nil, nil}, {[]int{1, 0, 2, 1}, nil, nil},
		{nil, list(1, 0, 2, 1, 1, 2, 1, 9, 2, 1, 0, 1, 9, 2), [][]int{{1, 0}, {1, 0, 2, 1}, {1, 0, 2, 1}, {1, 9, 2, 1}, {1, 9, 2, 1}, {1, 9, 2, 1}, {1, 9, 2, 1}}},
		{nil, list(1, 0, 1, 2, 1, 3), [][]int{{1, 0}, {1, 2}, {1, 3}}}, {nil, list(3, 2, 2, 1, 1, 3, 1, 0), [][]int{{3, 2}, {2, 1, 3, 2}, {2, 1, 3, 2}, {1, 0, 2, 1, 3, 2}}},
		{[]int{1, 0, 2, 1}, list(1, 2, 2, 0, 1, 2, 2, 1), [][]int{{1, 0, 2, 1}, {1, 0, 2, 0}, {1, 2, 2, 0}, {1, 2, 2, 0}}}, {[]int{1, 0}, list(1, 1, 0, 1, 0, 0), [][]int{{1, 0}, {1, 0}, {1, 0}}},
		{[]int{3, 0, 1, 0, 3, 1}, list(2, 3, 3, 1, 1, 2), [][]int{{2, 3, 3, 0, 1, 0, 3, 1}, {2, 3, 3, 1, 1, 0, 3, 1}, {2, 3, 3, 1, 1, 0, 3, 1}}},
	} {
		l := rows(c.l...)
		got, steps := undo.Run(l, c.m)
		last := c.l
		if len(c.want) > 0 {
			last = c.want[len(c.want)-1]
		}
		if !slices.Equal(nodes(got), last) || len(steps) != len(c.m) || !slices.Equal(undo.Moves(steps), c.m) {
			t.Fatalf("Run of %v, %v: %v, %+v", c.l, c.m, got, steps)
		}
		if got := undo.Back(got, steps); !slices.Equal(got, l) {
			t.Errorf("Back of %v, %v: %v", c.l, c.m, got)
		}
		at := l
		for i, want := range c.want {
			var s api.Step
			at, s = undo.Do(at, c.m[i])
			if !slices.Equal(nodes(at), want) || s != steps[i] {
				t.Errorf("Do of move %d of %v: %v, %+v, not %+v", i, c.m, at, s, steps[i])
			}
			if again := undo.Back(got, steps[i+1:]); !slices.Equal(again, at) {
				t.Errorf("Back of %+v: %v, not %v", steps[i+1:], again, at)
			}
		}
	}
}

// P15.3: the last step goes back first: steps of one node that were never done.
func TestBack(t *testing.T) {
	was := func(name string) api.Step {
		return api.Step{Move: move(1, 0), Moved: true, Had: true, Old: api.Row{Child: 1, Name: name}}
	}
	none, not := api.Step{Move: move(1, 0), Moved: true}, api.Step{Move: move(1, 0), Had: true, Old: api.Row{Child: 1, Name: "not"}}
	for _, c := range []struct {
		s    []api.Step
		want string
	}{
		{nil, "n0"}, {[]api.Step{was("a")}, "a"}, {[]api.Step{was("a"), was("b")}, "a"}, {[]api.Step{was("a"), was("b"), was("c")}, "a"}, {[]api.Step{was("a"), none}, "a"}, {[]api.Step{none, was("a")}, ""}, {[]api.Step{none}, ""}, {[]api.Step{none, none}, ""}, {[]api.Step{not, was("a")}, "a"}, {[]api.Step{was("a"), not}, "a"}, {[]api.Step{not, not}, "n0"}, {[]api.Step{not, none, was("a")}, ""},
	} {
		got := undo.Back(rows(1, 5), c.s)
		if r, _ := tree.Find(got, 1); r.Name != c.want || len(got) != min(len(c.want), 1) {
			t.Errorf("Back of %+v: %v", c.s, got)
		}
	}
}

// P15.3: Moves.
func TestMoves(t *testing.T) {
	l := []api.Move{{Time: api.Time{Counter: 3, Replica: 1}, Child: 4, Parent: 5, Name: "a", Rank: math.Copysign(0, -1)}, {}, {Time: api.Time{Counter: -1, Replica: 9}, Child: math.MinInt, Name: "\xff"}, {Time: api.Time{Counter: 3, Replica: 1}, Child: 1}}
	s := []api.Step{{Move: l[0]}, {Moved: true, Had: true, Old: api.Row{Child: 1}}, {Move: l[2], Moved: true}, {Move: l[3], Old: api.Row{Child: 9}}}
	if got := undo.Moves(s); !moves.Same(got, l) {
		t.Errorf("Moves of %+v: %v", s, got)
	}
	for _, none := range [][]api.Step{nil, {}} {
		if got := undo.Moves(none); len(got) != 0 {
			t.Errorf("Moves of nothing: %v", got)
		}
	}
}

// P15.3: Same: each part of a step counts, in each place.
func TestSame(t *testing.T) {
	s := api.Step{Move: api.Move{Time: api.Time{Counter: 1, Replica: 2}, Child: 3, Parent: 4, Name: "m", Rank: 5}, Moved: true, Had: true, Old: api.Row{Child: 6, Parent: 7, Name: "o", Rank: 8}}
	for i, change := range []func(s *api.Step){
		func(s *api.Step) { s.Move.Time.Counter++ }, func(s *api.Step) { s.Move.Time.Replica++ }, func(s *api.Step) { s.Move.Child++ }, func(s *api.Step) { s.Move.Parent++ }, func(s *api.Step) { s.Move.Name = "" }, func(s *api.Step) { s.Move.Rank++ },
		func(s *api.Step) { s.Moved = false }, func(s *api.Step) { s.Had = false }, func(s *api.Step) { s.Moved, s.Had = false, false },
		func(s *api.Step) { s.Old.Child++ }, func(s *api.Step) { s.Old.Parent++ }, func(s *api.Step) { s.Old.Name = "" }, func(s *api.Step) { s.Old.Rank++ }, func(s *api.Step) { s.Old = api.Row{} }, func(s *api.Step) { s.Move = api.Move{} }, func(s *api.Step) { *s = api.Step{} },
	} {
		n := s
		change(&n)
		for _, c := range [][2][]api.Step{{{s}, {n}}, {{n}, {s}}, {{s, s}, {s, n}}, {{s, s}, {n, s}}, {{s, n}, {n, s}}, {{s}, {s, n}}, {{s, n}, {s}}} {
			if undo.Same(c[0], c[1]) {
				t.Errorf("change %d: Same of %+v, %+v", i, c[0], c[1])
			}
		}
		for _, l := range [][]api.Step{{n}, {s, n}, {n, s, n}} {
			if !undo.Same(l, slices.Clone(l)) {
				t.Errorf("change %d: not Same: %+v", i, l)
			}
		}
	}
	for _, c := range [][2][]api.Step{{nil, nil}, {nil, {}}, {{}, {}}} {
		if !undo.Same(c[0], c[1]) {
			t.Errorf("not Same: %v, %v", c[0], c[1])
		}
	}
	for _, c := range [][2][]api.Step{{nil, {s}}, {{s}, nil}, {{s, s}, {s}}, {{}, {{}}}} {
		if undo.Same(c[0], c[1]) {
			t.Errorf("Same of %v, %v", c[0], c[1])
		}
	}
}

// P15.3: Same sees Ranks by their bits: noughts are unlike, all that is no number is alike.
func TestSameRanks(t *testing.T) {
	ranks := []float64{0, math.Copysign(0, -1), 1, -1, math.Inf(1), math.Inf(-1), 5e-324, math.Nextafter(1, 2), math.NaN()}
	for i, a := range ranks {
		for j, b := range ranks {
			if got := undo.Same([]api.Step{{Move: api.Move{Rank: a}}}, []api.Step{{Move: api.Move{Rank: b}}}); got != (i == j) {
				t.Errorf("Same of Moves' ranks %v, %v: %v", a, b, got)
			}
			if got := undo.Same([]api.Step{{Old: api.Row{Rank: a}}}, []api.Step{{Old: api.Row{Rank: b}}}); got != (i == j) {
				t.Errorf("Same of Olds' ranks %v, %v: %v", a, b, got)
			}
		}
	}
	none := math.Float64frombits(0xfff8000000000123)
	if !undo.Same([]api.Step{{Move: api.Move{Rank: none}, Old: api.Row{Rank: math.NaN()}}}, []api.Step{{Move: api.Move{Rank: math.NaN()}, Old: api.Row{Rank: none}}}) {
		t.Error("not Same: two of no number")
	}
}

// some makes count moves of nodes up to top, in the order of their Times.
func some(next func() uint64, count int, top uint64) []api.Move {
	ranks := []float64{0, math.Copysign(0, -1), 1, math.NaN()}
	var l []api.Move
	for i := range count {
		l = append(l, api.Move{Time: api.Time{Counter: i + 1, Replica: 1}, Child: int(next()%top) + 1, Parent: int(next() % (top + 2)), Name: fmt.Sprint("m", i), Rank: ranks[next()%4]})
	}
	return l
}

// P15.3: Run and Back of many moves, of trees and of rows that are none.
func TestMany(t *testing.T) {
	next := numbers()
	for range 400 {
		var l []api.Row
		for range next() % 6 {
			l = append(l, api.Row{Child: int(next()%8) - 1, Parent: int(next()%8) - 1, Name: "was"})
		}
		m := some(next, int(next()%30), 7)
		for range next() % 4 {
			m = append(m, move(int(next()%9)-2, int(next()%9)-2))
		}
		wasL, wasM := slices.Clone(l), slices.Clone(m)
		want, wantSteps := slices.Clone(l), make([]api.Step, len(m))
		for i := range m {
			want, wantSteps[i] = do(want, m[i])
		}
		got, steps := undo.Run(l, m)
		if !tree.Same(got, want) || !undo.Same(steps, wantSteps) || !tree.Same(got, fold.All(l, m)) {
			t.Fatalf("Run of %v, %v: %v, not %v", l, m, got, want)
		}
		// Steps that are not the last ones, and in another order.
		for i := range steps {
			some := slices.Concat(steps[i:], steps[:i])
			want := got
			for j := len(some) - 1; j >= 0; j-- {
				want = back(want, some[j])
			}
			if at := undo.Back(got, some); !tree.Same(at, want) {
				t.Fatalf("Back of %v, %+v: %v, not %v", got, some, at, want)
			}
		}
		if !slices.Equal(l, wasL) || !moves.Same(m, wasM) || !undo.Same(steps, wantSteps) {
			t.Fatalf("%v, %v changed: %v, %v", wasL, wasM, l, m)
		}
	}
}

// P15.4: what was run, and goes back, is what it was, of a tree; each step's rows are a tree, too.
func TestFollows(t *testing.T) {
	next := numbers()
	stopped, instead, fresh := 0, 0, 0
	for range 200 {
		m := some(next, 60, 12)
		base := fold.All(nil, m[:next()%30])
		l, steps := undo.Run(base, m[30:])
		for _, s := range steps {
			switch {
			case !s.Moved:
				stopped++
			case s.Had:
				instead++
			default:
				fresh++
			}
		}
		for i := len(steps); i >= 0; i-- {
			at := undo.Back(l, steps[i:])
			if !tree.May(at) || !tree.Same(at, fold.All(base, m[30:30+i])) {
				t.Fatalf("Back to step %d: %v", i, at)
			}
		}
		again, more := undo.Run(undo.Back(l, steps), undo.Moves(steps))
		if !tree.Same(again, l) || !undo.Same(more, steps) {
			t.Fatalf("run again: %v, not %v", again, l)
		}
	}
	if stopped < 500 || instead < 500 || fresh < 500 {
		t.Errorf("%d barred, %d of nodes that had a row, %d of others", stopped, instead, fresh)
	}
}

// R1, and the limits: a chain of as many nodes as there may be is run, and goes back.
func TestLong(t *testing.T) {
	var m []api.Move
	for i := range 2000 {
		m = append(m, api.Move{Time: api.Time{Counter: i + 1, Replica: 1}, Child: i + 1, Parent: i, Rank: float64(-i)})
	}
	l, steps := undo.Run(nil, m)
	if len(l) != 2000 || !tree.May(l) || len(steps) != 2000 {
		t.Fatalf("Run: %d rows, %d steps", len(l), len(steps))
	}
	if got := undo.Back(l, steps[7:]); len(got) != 7 || !slices.Equal(got, l[:7]) {
		t.Errorf("Back: %d rows", len(got))
	}
	if got := undo.Back(l, steps); len(got) != 0 {
		t.Errorf("Back: %d rows", len(got))
	}
}

// R5: what is told is new memory, or just what was handed in; room behind what was handed in is not written to.
func TestApart(t *testing.T) {
	room := rows(1, 0, 3, 1, 5, 1, 7, 5)
	was := slices.Clone(room)
	for count := range len(room) {
		for child := range 9 {
			for parent := range 9 {
				m := move(child, parent)
				one, s := undo.Do(room[:count], m)
				wasOne := slices.Clone(one)
				ran, steps := undo.Run(room[:count], []api.Move{m, move(8, 0), move(2, 8), m})
				wasSteps := slices.Clone(steps)
				old := undo.Undo(one, s)
				wasOld := slices.Clone(old)
				begin := undo.Back(ran, steps)
				set := undo.Undo(room[:count], api.Step{Moved: true, Had: true, Old: api.Row{Child: child}})
				drop := undo.Undo(room[:count], api.Step{Move: m, Moved: true})
				if s.Moved {
					for _, l := range [][]api.Row{begin, ran, set, drop} {
						for i := range l {
							l[i] = api.Row{}
						}
						_ = append(l, api.Row{Child: 99})
					}
				}
				list := undo.Moves(steps)
				list[0] = api.Move{}
				if !slices.Equal(room, was) || !slices.Equal(one, wasOne) || !slices.Equal(old, wasOld) || !slices.Equal(steps, wasSteps) {
					t.Fatalf("what %+v makes is shared: %v", m, room)
				}
			}
		}
	}
	// What was told once is not changed by what is told next from it.
	base, _ := undo.Do(room[:2], move(2, 0))
	one, _ := undo.Do(base, move(9, 1))
	two, _ := undo.Do(base, move(9, 2))
	if one[3].Parent != 1 || two[3].Parent != 2 || len(base) != 3 {
		t.Errorf("two share: %v, %v", one, two)
	}
}

// R5 and R6: no call changes what it is handed, and none hangs on what was called ahead.
func TestAgain(t *testing.T) {
	l := []api.Row{{Child: 3, Parent: 1, Rank: 2}, {Child: 1, Rank: math.NaN()}, {Child: 1, Parent: 3}, {Child: 5, Parent: 5}}
	m := list(2, 0, 1, 2, 2, 1, 5, 3, 3, 5, 0, 9, 4, 4)
	_, steps := undo.Run(l, m)
	wasL, wasM, wasSteps := slices.Clone(l), slices.Clone(m), slices.Clone(steps)
	all := func() string {
		done, s := undo.Do(l, m[0])
		same, not := undo.Do(l, m[6])
		ran, some := undo.Run(l, m)
		return fmt.Sprint(done, s, same, not, ran, some, undo.Undo(l, steps[1]), undo.Back(l, steps), undo.Back(ran, steps[2:]), undo.Moves(steps), undo.Same(steps, some), undo.Same(steps, some[1:]))
	}
	begin := all()
	for range 3 {
		if again := all(); again != begin || !tree.Same(l, wasL) || !slices.Equal(m, wasM) || !undo.Same(steps, wasSteps) {
			t.Errorf("%s, again %s", begin, again)
		}
		undo.Run(rows(8, 6), m)
		undo.Back(nil, steps)
	}
}
