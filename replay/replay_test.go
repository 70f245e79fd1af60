package replay_test

import (
	"fmt"
	"math"
	"slices"
	"testing"

	"bonsai/api"
	"bonsai/bits"
	"bonsai/fold"
	"bonsai/moves"
	"bonsai/replay"
	"bonsai/tree"
	"bonsai/undo"
)

// numbers goes without an end by numbers that look like chance, and are the same each time.
func numbers() func() uint64 {
	u := uint64(0x9e3779b97f4a7c15)
	return func() uint64 {
		u = u*6364136223846793005 + 1442695040888963407
		return u ^ u>>29
	}
}

// at tells a Time.
func at(counter int, replica int) api.Time {
	return api.Time{Counter: counter, Replica: replica}
}

// move makes one of a Counter and a Replica that lays child below parent.
func move(counter int, replica int, child int, parent int) api.Move {
	return api.Move{Time: at(counter, replica), Child: child, Parent: parent, Name: fmt.Sprint("m", counter), Rank: float64(replica)}
}

// rows makes rows of Children and Parents, one behind the other, each with a Name of its own.
func rows(nodes ...int) []api.Row {
	var l []api.Row
	for i := 0; i < len(nodes); i += 2 {
		l = append(l, api.Row{Child: nodes[i], Parent: nodes[i+1], Name: fmt.Sprint("n", i/2), Rank: float64(i)})
	}
	return l
}

// nodes tells the Children and Parents of l, one behind the other.
func nodes(l []api.Row) []int {
	var all []int
	for _, r := range l {
		all = append(all, r.Child, r.Parent)
	}
	return all
}

// before tells by the document's words whether a is ahead of b.
func before(a api.Time, b api.Time) bool {
	return a.Counter < b.Counter || a.Counter == b.Counter && a.Replica < b.Replica
}

// insert tells by the document's words l with m in it, how many stand behind it there, and whether m is new.
func insert(l []api.Move, m api.Move) ([]api.Move, int, bool) {
	place := 0
	for i := range l {
		if l[i].Time == m.Time {
			return l, 0, false
		}
		if before(l[i].Time, m.Time) {
			place = i + 1
		}
	}
	return slices.Insert(slices.Clone(l), place, m), len(l) - place, true
}

// check tells a fault where x is not a Tree of base and log.
func check(t *testing.T, x *replay.Tree, base []api.Row, log []api.Move) {
	t.Helper()
	want, steps := undo.Run(base, log)
	if got := x.Rows(); !tree.Same(got, want) || !tree.Same(got, fold.All(base, log)) {
		t.Fatalf("Rows of %v, %v: %v, not %v", base, log, got, want)
	}
	if got := x.Steps(); !undo.Same(got, steps) {
		t.Fatalf("Steps of %v, %v: %+v, not %+v", base, log, got, steps)
	}
	if got := x.Log(); !moves.Same(got, log) {
		t.Fatalf("Log of %v, %v: %v", base, log, got)
	}
	if got := x.Base(); !tree.Same(got, base) {
		t.Fatalf("Base of %v, %v: %v", base, log, got)
	}
}

// P16.1: a new Tree has its base, and no moves; also of rows that are no tree.
func TestNew(t *testing.T) {
	for _, base := range [][]api.Row{
		nil, {}, rows(1, 0), rows(1, 0, 2, 1), rows(2, 1, 1, 0), rows(1, 2, 2, 1), rows(1, 1), rows(3, 0, 3, 1), rows(0, 5), rows(-1, -2, math.MaxInt, math.MinInt),
		{{Child: 1, Name: "\xff", Rank: math.NaN()}, {Child: 2, Rank: math.Copysign(0, -1)}},
	} {
		check(t, replay.New(base), base, nil)
	}
}

// P16.2 and P16.3: Add, by hand: what is told, and the rows then.
func TestAdd(t *testing.T) {
	type add struct {
		m      api.Move
		behind int
		fresh  bool
		want   []int
	}
	for _, c := range []struct {
		base []int
		adds []add
	}{
		// The chapter's example, and the first two of the whole.
		{nil, []add{{move(2, 1, 1, 0), 0, true, []int{1, 0}}, {move(1, 1, 2, 0), 1, true, []int{1, 0, 2, 0}}}},
		{[]int{1, 0, 2, 0}, []add{{move(1, 1, 1, 2), 0, true, []int{1, 2, 2, 0}}, {move(2, 2, 2, 1), 0, true, []int{1, 2, 2, 0}}}},
		{[]int{1, 0, 2, 0}, []add{{move(2, 2, 2, 1), 0, true, []int{1, 0, 2, 1}}, {move(1, 1, 1, 2), 1, true, []int{1, 2, 2, 0}}}},
		// A move that was barred is done where one that comes late makes room for it.
		{[]int{1, 0, 2, 1}, []add{{move(5, 1, 1, 2), 0, true, []int{1, 0, 2, 1}}, {move(4, 1, 2, 0), 1, true, []int{1, 2, 2, 0}}, {move(3, 1, 2, 9), 2, true, []int{1, 2, 2, 0}}, {move(6, 1, 2, 0), 0, true, []int{1, 2, 2, 0}}}},
		// A Time that is there: nothing changes, whatever else the move is.
		{nil, []add{{move(5, 1, 1, 0), 0, true, []int{1, 0}}, {move(5, 1, 1, 0), 0, false, []int{1, 0}}, {move(5, 1, 1, 7), 0, false, []int{1, 0}}, {move(5, 1, 2, 1), 0, false, []int{1, 0}}, {move(7, 1, 2, 0), 0, true, []int{1, 0, 2, 0}}, {move(5, 1, 3, 0), 0, false, []int{1, 0, 2, 0}}, {move(6, 1, 3, 2), 1, true, []int{1, 0, 2, 0, 3, 2}}, {move(6, 1, 3, 0), 0, false, []int{1, 0, 2, 0, 3, 2}}}},
		// Of one Counter the Replica tells.
		{nil, []add{{move(1, 2, 1, 5), 0, true, []int{1, 5}}, {move(1, 1, 1, 6), 1, true, []int{1, 5}}, {move(1, 3, 1, 7), 0, true, []int{1, 7}}, {move(0, 9, 1, 8), 3, true, []int{1, 7}}, {move(2, 0, 1, 9), 0, true, []int{1, 9}}, {move(1, 2, 1, 1), 0, false, []int{1, 9}}}},
		// Moves that may not be are moves, too.
		{nil, []add{{api.Move{}, 0, true, nil}, {api.Move{Child: 1}, 0, false, nil}, {move(-1, -1, 1, 1), 1, true, nil}, {move(math.MaxInt, math.MaxInt, -1, 0), 0, true, []int{-1, 0}}, {move(math.MinInt, math.MaxInt, 0, 1), 3, true, []int{-1, 0}}, {move(math.MaxInt, math.MinInt, -2, -1), 1, true, []int{-2, -1, -1, 0}}, {move(math.MinInt, math.MinInt, math.MinInt, math.MaxInt), 5, true, []int{math.MinInt, math.MaxInt, -2, -1, -1, 0}}}},
		// Rows that are no tree: of two of one Child the first one counts, ahead and behind.
		{[]int{3, 1, 3, 0, 1, 0}, []add{{move(2, 1, 3, 5), 0, true, []int{3, 5, 3, 0, 1, 0}}, {move(1, 1, 1, 3), 1, true, []int{3, 5, 3, 0, 1, 0}}, {move(3, 1, 2, 1), 0, true, []int{2, 1, 3, 5, 3, 0, 1, 0}}, {move(0, 1, 3, 3), 3, true, []int{2, 1, 3, 5, 3, 0, 1, 0}}}},
		{[]int{1, 2, 2, 1}, []add{{move(2, 1, 1, 2), 0, true, []int{1, 2, 2, 1}}, {move(1, 1, 2, 0), 1, true, []int{1, 2, 2, 0}}}},
	} {
		base := rows(c.base...)
		x := replay.New(base)
		var log []api.Move
		for i, a := range c.adds {
			behind, fresh := x.Add(a.m)
			if behind != a.behind || fresh != a.fresh || !slices.Equal(nodes(x.Rows()), a.want) {
				t.Errorf("add %d of %v: %d, %v, %v", i, c, behind, fresh, x.Rows())
			}
			log, _, _ = insert(log, a.m)
			check(t, x, base, log)
		}
	}
}

// P16.2 and P16.3: Add of many, in no order, some of them twice, some of one Time and unlike.
func TestMany(t *testing.T) {
	next := numbers()
	ranks := []float64{0, math.Copysign(0, -1), 1, math.NaN()}
	late, twice, none := 0, 0, 0
	for range 150 {
		var base []api.Row
		for range next() % 6 {
			base = append(base, api.Row{Child: int(next()%8) - 1, Parent: int(next()%8) - 1, Name: "base", Rank: ranks[next()%4]})
		}
		if next()%3 > 0 {
			base = fold.All(nil, []api.Move{move(1, 1, 1, 0), move(2, 1, 2, 1), move(3, 1, 3, 1), move(4, 1, 4, 3)})
		}
		x := replay.New(base)
		var log []api.Move
		for i := range 40 {
			m := api.Move{Time: at(int(next()%20), int(next()%3)), Child: int(next() % 8), Parent: int(next() % 9), Name: fmt.Sprint("m", i), Rank: ranks[next()%4]}
			var want int
			var wantFresh bool
			log, want, wantFresh = insert(log, m)
			if behind, fresh := x.Add(m); behind != want || fresh != wantFresh {
				t.Fatalf("Add of %+v to %v: %d, %v", m, log, behind, fresh)
			}
			if !wantFresh {
				twice++
			} else if want > 0 {
				late++
			}
			check(t, x, base, log)
		}
		for _, s := range x.Steps() {
			if !s.Moved {
				none++
			}
		}
	}
	if late < 1000 || twice < 1000 || none < 500 {
		t.Errorf("%d late, %d twice, %d barred", late, twice, none)
	}
}

// orders goes by all orders in which l may stand.
func orders(l []api.Move, yield func([]api.Move) bool) bool {
	if len(l) == 0 {
		return yield(nil)
	}
	for i, m := range l {
		rest := slices.Delete(slices.Clone(l), i, i+1)
		if !orders(rest, func(order []api.Move) bool { return yield(append(order, m)) }) {
			return false
		}
	}
	return true
}

// P16.4: in whatever order moves come, and however often, the tree is what they make by their times.
func TestOrders(t *testing.T) {
	base := rows(1, 0, 2, 1)
	log := []api.Move{move(1, 1, 3, 2), move(1, 2, 1, 3), move(2, 1, 2, 0), move(3, 1, 1, 3), move(3, 2, 4, 1), move(9, 1, 3, 4)}
	want := fold.All(base, log)
	seen := 0
	orders(log, func(order []api.Move) bool {
		seen++
		x, twice := replay.New(base), replay.New(base)
		for i, m := range order {
			_, fresh := x.Add(m)
			twice.Add(m)
			behind, again := twice.Add(order[i/2])
			if !fresh || again || behind != 0 {
				t.Errorf("Add of %+v: %v, %d, %v", m, fresh, behind, again)
			}
		}
		check(t, x, base, log)
		check(t, twice, base, log)
		if !tree.Same(x.Rows(), want) {
			t.Errorf("in the order of %v: %v", order, x.Rows())
		}
		return !t.Failed()
	})
	if seen != 720 {
		t.Errorf("%d orders", seen)
	}
}

// P16.4: what moves are done of a tree leave a tree, however late each of them comes.
func TestTree(t *testing.T) {
	next := numbers()
	for range 60 {
		x := replay.New(rows(1, 0, 2, 1, 3, 2, 4, 3))
		for i := range 40 {
			x.Add(move(int(next()%1000)+1, i+1, int(next()%12)+1, int(next()%14)))
			if got := x.Rows(); !tree.May(got) {
				t.Fatalf("no tree: %v", got)
			}
			if got := x.Log(); !moves.May(got) || len(got) != i+1 {
				t.Fatalf("no log: %v", got)
			}
		}
	}
}

// R1: of a nil Tree: 0, false, nothing; one that New did not make is a Tree of nothing.
func TestNil(t *testing.T) {
	var none *replay.Tree
	for _, m := range []api.Move{{}, move(1, 1, 1, 0), move(-1, -1, 0, 0)} {
		if behind, fresh := none.Add(m); behind != 0 || fresh {
			t.Errorf("Add to nil: %d, %v", behind, fresh)
		}
		if len(none.Rows()) != 0 || len(none.Log()) != 0 || len(none.Steps()) != 0 || len(none.Base()) != 0 {
			t.Error("a nil Tree has something")
		}
	}
	var zero replay.Tree
	check(t, &zero, nil, nil)
	l := []api.Move{move(1, 1, 1, 0), move(2, 1, 2, 1), move(3, 1, 1, 2)}
	for i := range l {
		if behind, fresh := zero.Add(l[2-i]); behind != i || !fresh {
			t.Errorf("Add of %+v to a zero Tree: %d, %v", l[2-i], behind, fresh)
		}
	}
	check(t, &zero, nil, l)
}

// R5: a Tree shares nothing with what New was handed, and nothing that it told is changed, or changes it.
func TestApart(t *testing.T) {
	room := rows(1, 0, 3, 1, 5, 1, 7, 5)
	base := slices.Clone(room[:2])
	for _, l := range [][]api.Move{nil, {move(5, 1, 1, 1)}, {move(5, 1, 2, 1)}, {move(3, 1, 1, 3), move(5, 1, 3, 0), move(7, 1, 2, 1), move(9, 1, 1, 2)}} {
		was := slices.Clone(room)
		x := replay.New(room[:2])
		for _, m := range l {
			x.Add(m)
		}
		if !slices.Equal(room, was) {
			t.Fatalf("%v changed: %v", was, room)
		}
		for i := range room {
			room[i] = api.Row{Child: 99}
		}
		check(t, x, base, l)
		copy(room, was)
		lists := func() ([]api.Row, []api.Row, []api.Move, []api.Step) {
			return x.Rows(), x.Base(), x.Log(), x.Steps()
		}
		rows, begin, log, steps := lists()
		for _, r := range [][]api.Row{rows, begin} {
			for i := range r {
				r[i] = api.Row{Child: 99}
			}
			_ = append(r, api.Row{Child: 98})
		}
		for i := range log {
			log[i], steps[i] = api.Move{}, api.Step{}
		}
		_, _ = append(log, move(99, 9, 9, 9)), append(steps, api.Step{Moved: true})
		check(t, x, base, l)
		// What was told stays as it is, whatever comes then, late or not.
		rows, begin, log, steps = lists()
		wasRows, wasBase, wasLog, wasSteps := slices.Clone(rows), slices.Clone(begin), slices.Clone(log), slices.Clone(steps)
		for _, m := range []api.Move{move(99, 1, 1, 0), move(0, 1, 1, 3), move(6, 1, 3, 0), move(1, 1, 9, 0)} {
			x.Add(m)
			if !slices.Equal(rows, wasRows) || !slices.Equal(begin, wasBase) || !slices.Equal(log, wasLog) || !slices.Equal(steps, wasSteps) {
				t.Fatalf("Add of %+v changes what was told of %v", m, l)
			}
		}
	}
}

// R5 and R6: no two Trees hang on one another, nor does a copy of one on what comes to the other.
func TestCopy(t *testing.T) {
	base := rows(1, 0, 2, 1)
	l := []api.Move{move(3, 1, 2, 0), move(5, 1, 1, 2), move(7, 1, 3, 1), move(9, 1, 2, 3), move(11, 1, 2, 9)}
	for count := range len(l) + 1 {
		for _, one := range []api.Move{move(1, 1, 4, 1), move(4, 1, 4, 2), move(6, 1, 2, 1), move(20, 1, 4, 4), move(20, 1, 4, 0)} {
			for _, two := range []api.Move{move(1, 1, 5, 1), move(2, 1, 1, 5), move(8, 1, 3, 2), move(20, 1, 5, 0)} {
				x, other := replay.New(base), replay.New(base)
				for _, m := range l[:count] {
					x.Add(m)
				}
				y := *x
				x.Add(one)
				y.Add(two)
				other.Add(two)
				wantX, _, _ := insert(l[:count], one)
				wantY, _, _ := insert(l[:count], two)
				check(t, x, base, wantX)
				check(t, &y, base, wantY)
				check(t, other, base, []api.Move{two})
			}
		}
	}
}

// R6: what is told hangs on nothing but what was added, however often it is asked.
func TestAgain(t *testing.T) {
	base := rows(1, 0, 2, 1)
	all := func() string {
		x := replay.New(base)
		s := ""
		for _, m := range []api.Move{move(5, 1, 2, 0), move(2, 1, 1, 2), move(5, 1, 9, 9), move(3, 1, 3, 1), move(9, 1, 3, 3)} {
			behind, fresh := x.Add(m)
			begin := fmt.Sprint(x.Rows(), x.Log(), x.Steps(), x.Base())
			if again := fmt.Sprint(x.Rows(), x.Log(), x.Steps(), x.Base()); again != begin {
				t.Errorf("%s, again %s", begin, again)
			}
			s += fmt.Sprint(behind, fresh, begin)
		}
		return s
	}
	begin := all()
	for range 3 {
		if again := all(); again != begin {
			t.Errorf("%s, again %s", begin, again)
		}
	}
}

// P5 and P16.3: Ranks and Names are kept as they are, in moves and in rows that come back.
func TestWhole(t *testing.T) {
	minus := math.Copysign(0, -1)
	base := []api.Row{{Child: 1, Name: "\xff", Rank: minus}, {Child: 2, Name: "b", Rank: math.NaN()}}
	x := replay.New(base)
	late := api.Move{Time: at(1, 1), Child: 3, Parent: 2, Name: "\xfe", Rank: minus}
	last := api.Move{Time: at(2, 1), Child: 1, Parent: 3, Name: "", Rank: math.NaN()}
	x.Add(last)
	x.Add(late)
	check(t, x, base, []api.Move{late, last})
	s := x.Steps()
	if s[1].Old.Name != "\xff" || !bits.Same(s[1].Old.Rank, minus) || !bits.Same(s[0].Move.Rank, minus) || s[0].Had || s[0].Move.Name != "\xfe" {
		t.Errorf("Steps: %+v", s)
	}
}

// R1, and the limits: moves of a chain as long as may be, the first of which comes last.
func TestLong(t *testing.T) {
	var log []api.Move
	for i := range 2000 {
		log = append(log, move(i+1, 1, i+1, i))
	}
	x := replay.New(nil)
	for _, m := range log[1:] {
		if behind, fresh := x.Add(m); behind != 0 || !fresh {
			t.Fatalf("Add of %+v: %d, %v", m, behind, fresh)
		}
	}
	if behind, fresh := x.Add(log[0]); behind != 1999 || !fresh {
		t.Errorf("Add of the first one: %d, %v", behind, fresh)
	}
	check(t, x, nil, log)
}
