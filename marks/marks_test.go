package marks_test

import (
	"fmt"
	"math"
	"slices"
	"testing"

	"bonsai/api"
	"bonsai/marks"
	"bonsai/rank"
)

const top = 1<<62 - 1

// numbers goes without an end by numbers that look like chance, and are the same each time.
func numbers() func() uint64 {
	u := uint64(0x9e3779b97f4a7c15)
	return func() uint64 {
		u = u*6364136223846793005 + 1442695040888963407
		return u ^ u>>29
	}
}

// at tells a Time.
func at(counter int, replica int) api.Time {
	return api.Time{Counter: counter, Replica: replica}
}

// list makes marks of Replicas and Counters, one behind the other.
func list(numbers ...int) []api.Mark {
	var v []api.Mark
	for i := 0; i < len(numbers); i += 2 {
		v = append(v, api.Mark{Replica: numbers[i], Counter: numbers[i+1]})
	}
	return v
}

// all tells marks of all 255 replicas.
func all() []api.Mark {
	var v []api.Mark
	for i := range 255 {
		v = append(v, api.Mark{Replica: i + 1, Counter: 1000 - i})
	}
	return v
}

// lists goes by all lists of up to three marks of few replicas and Counters, in each order, and with each as often as
// there is room; no list is told twice.
func lists(yield func([]api.Mark) bool) {
	every := [][]int{nil}
	for begin := 0; begin < len(every); begin++ {
		if !yield(list(every[begin]...)) {
			return
		}
		if len(every[begin]) == 6 {
			continue
		}
		for _, replica := range []int{0, 1, 3} {
			for _, counter := range []int{-2, 0, 1, 3} {
				every = append(every, append(slices.Clone(every[begin]), replica, counter))
			}
		}
	}
}

// short goes by those of lists that have two marks at most.
func short(yield func([]api.Mark) bool) {
	for v := range lists {
		if len(v) > 2 || !yield(v) {
			return
		}
	}
}

// get tells by the document's words the Counter of that replica's first mark.
func get(v []api.Mark, replica int) int {
	for i := range v {
		if v[i].Replica == replica {
			return v[i].Counter
		}
	}
	return 0
}

// raise tells by the document's words v raised by a Counter of that replica.
func raise(v []api.Mark, counter int, replica int) []api.Mark {
	raised := slices.Clone(v)
	for i := range raised {
		if raised[i].Replica == replica {
			if counter > raised[i].Counter {
				raised[i].Counter = counter
			}
			return raised
		}
	}
	if counter <= 0 {
		return raised
	}
	for i := range raised {
		if raised[i].Replica > replica {
			return slices.Insert(raised, i, api.Mark{Replica: replica, Counter: counter})
		}
	}
	return append(raised, api.Mark{Replica: replica, Counter: counter})
}

// below tells by the document's words whether a is below b.
func below(a []api.Mark, b []api.Mark) bool {
	for i := range a {
		if get(a, a[i].Replica) > get(b, a[i].Replica) {
			return false
		}
	}
	return true
}

// P17.1: May.
func TestMay(t *testing.T) {
	for _, c := range []struct {
		v    []api.Mark
		want bool
	}{
		{nil, true}, {[]api.Mark{}, true}, {list(1, 1), true}, {list(255, top), true}, {list(1, top, 255, 1), true}, {list(1, 5, 2, 5, 3, 1), true}, {list(1, top-1), true}, {list(254, 2), true}, {list(7, 1<<32), true}, {all(), true},
		{[]api.Mark{{}}, false}, {list(0, 1), false}, {list(-1, 1), false}, {list(256, 1), false}, {list(257, 1), false}, {list(math.MinInt, 1), false}, {list(math.MaxInt, 1), false}, {list(1<<32+1, 1), false},
		{list(1, 0), false}, {list(1, -1), false}, {list(1, top+1), false}, {list(1, math.MinInt), false}, {list(1, math.MaxInt), false},
		{list(1, 1, 1, 1), false}, {list(1, 1, 1, 2), false}, {list(2, 1, 1, 1), false}, {list(2, 1, 1, 2), false}, {list(1, 1, 3, 1, 2, 1), false}, {list(1, 1, 2, 1, 2, 1), false}, {list(1, 1, 2, 1, 1, 1), false}, {list(2, 1, 3, 1, 2, 2, 4, 1), false},
		{list(1, 1, 256, 1), false}, {list(0, 1, 1, 1), false}, {list(1, 0, 2, 1), false}, {list(1, 1, 2, 0), false}, {list(1, 1, 2, top+1), false}, {list(1, top+1, 2, 1), false}, {list(255, 1, 256, 1), false},
		{append(all(), all()...), false}, {append(all(), api.Mark{Replica: 256, Counter: 1}), false}, {make([]api.Mark, 5000), false},
	} {
		if got := marks.May(c.v); got != c.want {
			t.Errorf("May of %.200v: %v", c.v, got)
		}
	}
	for v := range lists {
		want := true
		for i, m := range v {
			if m.Replica < 1 || m.Counter < 1 || i > 0 && v[i-1].Replica >= m.Replica {
				want = false
			}
		}
		if got := marks.May(v); got != want {
			t.Fatalf("May of %v: %v", v, got)
		}
	}
}

// P17.1: Get: of marks that may be, and of others, of which the first one of a replica counts.
func TestGet(t *testing.T) {
	for _, c := range []struct {
		v       []api.Mark
		replica int
		want    int
	}{
		{nil, 0, 0}, {nil, 1, 0}, {list(2, 5), 2, 5}, {list(2, 5), 1, 0}, {list(2, 5), 3, 0}, {list(2, 5), -2, 0}, {list(1, top, 255, 1), 1, top}, {list(1, top, 255, 1), 255, 1}, {list(1, top, 255, 1), 254, 0}, {list(1, 1), 256, 0}, {list(1, 1), 257, 0}, {list(1, 1), 1<<32 + 1, 0},
		{list(2, 5, 2, 6), 2, 5}, {list(2, 6, 2, 5), 2, 6}, {list(2, 0, 2, 5), 2, 0}, {list(3, 1, 2, 5, 1, 7, 2, 9), 2, 5}, {list(3, 1, 2, 5, 1, 7), 1, 7}, {list(0, 4), 0, 4}, {list(-3, -4), -3, -4}, {list(math.MinInt, math.MaxInt, math.MaxInt, math.MinInt), math.MaxInt, math.MinInt}, {list(256, 9), 256, 9},
	} {
		if got := marks.Get(c.v, c.replica); got != c.want {
			t.Errorf("Get of %v, %d: %d", c.v, c.replica, got)
		}
	}
	for v := range lists {
		for replica := -1; replica <= 5; replica++ {
			if got, want := marks.Get(v, replica), get(v, replica); got != want {
				t.Fatalf("Get of %v, %d: %d, not %d", v, replica, got, want)
			}
		}
	}
	every := all()
	for i := range 255 {
		if got := marks.Get(every, i+1); got != 1000-i {
			t.Errorf("Get of all, %d: %d", i+1, got)
		}
	}
}

// P17.2: Raise, by hand: the example, the edges, and marks that may not be.
func TestRaise(t *testing.T) {
	for _, c := range []struct {
		v    []api.Mark
		t    api.Time
		want []api.Mark
	}{
		{nil, at(5, 2), list(2, 5)}, {nil, at(1, 1), list(1, 1)}, {nil, at(0, 2), nil}, {nil, at(-1, 2), nil}, {nil, at(math.MinInt, 2), nil}, {nil, at(math.MaxInt, math.MinInt), list(math.MinInt, math.MaxInt)}, {nil, at(1, 0), list(0, 1)}, {nil, api.Time{}, nil},
		{list(2, 5), at(6, 2), list(2, 6)}, {list(2, 5), at(5, 2), list(2, 5)}, {list(2, 5), at(4, 2), list(2, 5)}, {list(2, 5), at(0, 2), list(2, 5)}, {list(2, 5), at(-1, 2), list(2, 5)}, {list(2, 5), at(top, 2), list(2, top)}, {list(2, 5), at(top+1, 2), list(2, top+1)},
		{list(2, 5), at(1, 1), list(1, 1, 2, 5)}, {list(2, 5), at(1, 3), list(2, 5, 3, 1)}, {list(2, 5), at(0, 1), list(2, 5)}, {list(2, 5), at(0, 3), list(2, 5)}, {list(2, 5), at(-9, 3), list(2, 5)}, {list(2, 5, 9, 1), at(4, 5), list(2, 5, 5, 4, 9, 1)}, {list(2, 5, 9, 1), at(4, 255), list(2, 5, 9, 1, 255, 4)}, {list(2, 5, 9, 1), at(2, 9), list(2, 5, 9, 2)},
		// Where more than one mark is of the replica, just the first one is raised; where none is, all else stays in its order.
		{list(2, 5, 2, 1), at(3, 2), list(2, 5, 2, 1)}, {list(2, 1, 2, 5), at(3, 2), list(2, 3, 2, 5)}, {list(3, 1, 1, 1), at(4, 2), list(2, 4, 3, 1, 1, 1)}, {list(1, 1, 9, 1, 3, 1), at(4, 2), list(1, 1, 2, 4, 9, 1, 3, 1)}, {list(9, 1, 2, 5), at(7, 2), list(9, 1, 2, 7)}, {list(3, 1, 1, 1), at(4, 5), list(3, 1, 1, 1, 5, 4)},
		// A mark that is no more than 0 is raised where it stands.
		{list(2, -5), at(-3, 2), list(2, -3)}, {list(2, -5), at(-6, 2), list(2, -5)}, {list(2, -5), at(0, 2), list(2, 0)}, {list(2, 0), at(0, 2), list(2, 0)}, {list(2, 0), at(1, 2), list(2, 1)}, {list(2, math.MinInt), at(math.MaxInt, 2), list(2, math.MaxInt)},
	} {
		was := slices.Clone(c.v)
		if got := marks.Raise(c.v, c.t); !slices.Equal(got, c.want) || !slices.Equal(c.v, was) {
			t.Errorf("Raise of %v by %v: %v", was, c.t, got)
		}
	}
}

// P17.2: Raise, Join and Of of all short lists, by their words, and that none changes what it was handed.
func TestLists(t *testing.T) {
	for v := range lists {
		was := slices.Clone(v)
		for replica := -1; replica <= 5; replica++ {
			for counter := -3; counter <= 4; counter++ {
				if got, want := marks.Raise(v, at(counter, replica)), raise(was, counter, replica); !slices.Equal(got, want) {
					t.Fatalf("Raise of %v by %d of %d: %v, not %v", was, counter, replica, got, want)
				}
			}
		}
		var l []api.Move
		var want []api.Mark
		for i, m := range was {
			l = append(l, api.Move{Time: at(m.Counter, m.Replica), Child: i, Parent: 9 - i, Name: "n", Rank: 7})
			want = raise(want, m.Counter, m.Replica)
		}
		wasL := slices.Clone(l)
		if got := marks.Of(l); !slices.Equal(got, want) || !slices.Equal(l, wasL) {
			t.Fatalf("Of %v: %v, not %v", wasL, got, want)
		}
		for b := range short {
			wasB, want := slices.Clone(b), was
			for _, m := range b {
				want = raise(want, m.Counter, m.Replica)
			}
			if got := marks.Join(v, b); !slices.Equal(got, want) || !slices.Equal(b, wasB) {
				t.Fatalf("Join of %v, %v: %v, not %v", was, wasB, got, want)
			}
			want = wasB
			for _, m := range v {
				want = raise(want, m.Counter, m.Replica)
			}
			if got := marks.Join(b, v); !slices.Equal(got, want) {
				t.Fatalf("Join of %v, %v: %v, not %v", wasB, was, got, want)
			}
		}
		if !slices.Equal(v, was) {
			t.Fatalf("%v changed: %v", was, v)
		}
	}
}

// P17.2: Join, by hand: marks of b count in their order, and those of a stay where they stand.
func TestJoin(t *testing.T) {
	for _, c := range []struct {
		a, b, want []api.Mark
	}{
		{nil, nil, nil}, {nil, list(1, 2), list(1, 2)}, {list(1, 2), nil, list(1, 2)}, {list(1, 2), list(1, 2), list(1, 2)}, {list(1, 2), list(1, 3), list(1, 3)}, {list(1, 3), list(1, 2), list(1, 3)}, {list(1, 7, 2, 5, 9, 1), list(2, 9, 3, 1), list(1, 7, 2, 9, 3, 1, 9, 1)}, {list(2, 1), list(1, 1, 3, 1), list(1, 1, 2, 1, 3, 1)},
		{nil, list(3, 1, 1, 2, 3, 4, 2, 0), list(1, 2, 3, 4)}, {nil, list(3, 0, 1, -1), nil}, {list(3, 1, 1, 1), list(2, 1, 0, 1), list(0, 1, 2, 1, 3, 1, 1, 1)}, {list(1, 1, 1, 9), list(1, 5), list(1, 5, 1, 9)}, {list(0, 0), list(0, 0), list(0, 0)},
		{all(), list(1, top, 255, top), append(append(list(1, top), all()[1:254]...), api.Mark{Replica: 255, Counter: top})}, {all(), all(), all()}, {nil, all(), all()},
	} {
		if got := marks.Join(c.a, c.b); !slices.Equal(got, c.want) {
			t.Errorf("Join of %v, %v: %v", c.a, c.b, got)
		}
	}
}

// P17.2: Of, by hand: just the Times count.
func TestOf(t *testing.T) {
	for _, c := range []struct {
		times []api.Time
		want  []api.Mark
	}{
		{nil, nil}, {[]api.Time{{}}, nil}, {[]api.Time{at(1, 1)}, list(1, 1)}, {[]api.Time{at(4, 2), at(9, 1), at(3, 2)}, list(1, 9, 2, 4)}, {[]api.Time{at(top, 255), at(1, 255)}, list(255, top)}, {[]api.Time{at(-1, 3), at(0, 3), at(1, 4)}, list(4, 1)}, {[]api.Time{at(1, -7), at(math.MaxInt, math.MaxInt), at(2, -7)}, list(-7, 2, math.MaxInt, math.MaxInt)},
	} {
		var l []api.Move
		for _, when := range c.times {
			l = append(l, api.Move{Time: when})
		}
		if got := marks.Of(l); !slices.Equal(got, c.want) {
			t.Errorf("Of %v: %v", c.times, got)
		}
	}
	var l []api.Move
	for i := range 2000 {
		l = append(l, api.Move{Time: at(i+1, 255-i%255)})
	}
	v := marks.Of(l)
	for i, m := range v {
		// Of replica 255 - n the last one is move number 255 k + n of the greatest k.
		n := 254 - i
		want := 255*((1999-n)/255) + n + 1
		if m != (api.Mark{Replica: i + 1, Counter: want}) {
			t.Errorf("Of 2000 moves: mark %d is %v, not %d", i, m, want)
		}
	}
	if len(v) != 255 || !marks.May(v) {
		t.Errorf("Of 2000 moves: %d marks", len(v))
	}
}

// P17.3: Below, by hand, and of all short lists.
func TestBelow(t *testing.T) {
	for _, c := range []struct {
		a, b []api.Mark
		want bool
	}{
		{nil, nil, true}, {nil, list(1, 1), true}, {list(1, 1), nil, false}, {list(1, 1), list(1, 1), true}, {list(1, 1), list(1, 2), true}, {list(1, 2), list(1, 1), false}, {list(1, 1), list(2, 9), false}, {list(2, 1), list(1, 9, 2, 1, 3, 9), true}, {list(1, 1, 2, 2), list(1, 1, 2, 1), false}, {list(1, 2, 2, 1), list(1, 1, 2, 1), false}, {list(1, 1, 2, 1), list(2, 1), false}, {list(1, 1, 2, 1), list(1, 1), false}, {list(1, top), list(1, top-1), false}, {list(1, top-1), list(1, top), true},
		// What a has of no replica's, or of nought or less, is held against 0.
		{list(1, 0), nil, true}, {list(1, -1), nil, true}, {list(0, 1), nil, false}, {list(-1, 1), list(-1, 1), true}, {nil, list(1, -1), true}, {list(1, 0), list(1, -1), false}, {list(1, -2), list(1, -1), true}, {list(1, math.MinInt), list(1, math.MaxInt), true}, {list(1, math.MaxInt), list(1, math.MinInt), false},
		// Of two of one replica the first one counts, on both sides.
		{list(1, 1, 1, 9), list(1, 1), true}, {list(1, 9, 1, 1), list(1, 1), false}, {list(1, 2), list(1, 2, 1, 1), true}, {list(1, 2), list(1, 1, 1, 2), false}, {list(2, 1, 1, 1), list(1, 1, 2, 1), true}, {list(1, 1, 2, 5, 1, 9), list(2, 5, 1, 1), true},
		{all(), all(), true}, {all()[1:], all(), true}, {all(), all()[1:], false}, {all(), all()[:254], false},
	} {
		if got := marks.Below(c.a, c.b); got != c.want {
			t.Errorf("Below of %v, %v: %v", c.a, c.b, got)
		}
	}
	for a := range lists {
		wasA := slices.Clone(a)
		for b := range short {
			wasB := slices.Clone(b)
			if got, want := marks.Below(a, b), below(wasA, wasB); got != want {
				t.Fatalf("Below of %v, %v: %v", wasA, wasB, got)
			}
			if got, want := marks.Below(b, a), below(wasB, wasA); got != want {
				t.Fatalf("Below of %v, %v: %v", wasB, wasA, got)
			}
			if !slices.Equal(a, wasA) || !slices.Equal(b, wasB) {
				t.Fatalf("%v, %v changed: %v, %v", wasA, wasB, a, b)
			}
		}
	}
}

// P17.4: Next.
func TestNext(t *testing.T) {
	for _, c := range []struct {
		v       []api.Mark
		floor   api.Time
		replica int
		want    api.Time
	}{
		{nil, at(0, 0), 1, at(1, 1)}, {nil, at(0, 0), 255, at(1, 255)}, {nil, at(5, 9), 2, at(6, 2)}, {nil, at(-5, 9), 2, at(1, 2)}, {nil, at(math.MinInt, 9), 2, at(1, 2)}, {list(1, 5), at(0, 0), 1, at(6, 1)}, {list(1, 5), at(0, 0), 2, at(6, 2)}, {list(1, 5), at(4, 1), 2, at(6, 2)}, {list(1, 5), at(5, 1), 2, at(6, 2)}, {list(1, 5), at(6, 1), 2, at(7, 2)},
		{list(1, 5, 2, 9, 3, 7), at(8, 1), 3, at(10, 3)}, {list(1, 9, 2, 5), at(0, 0), 2, at(10, 2)}, {list(1, 5, 2, 9), at(0, 0), 1, at(10, 1)}, {list(1, -5), at(-4, 1), 1, at(1, 1)}, {list(1, -5, 1, 0), at(0, 1), 7, at(1, 7)},
		{nil, at(top-1, 1), 1, at(top, 1)}, {list(1, top-1), at(0, 0), 254, at(top, 254)}, {list(1, top-1), at(top-1, 1), 1, at(top, 1)}, {list(1, top-2), at(1, 1), 1, at(top-1, 1)},
		// Marks that may not be count as well, and one behind another of its replica, too.
		{list(7, 1, 7, 9, 7, 3), at(0, 0), 7, at(10, 7)}, {list(0, 8, -1, 9), at(0, 0), 1, at(10, 1)}, {list(300, 8), at(0, 0), 1, at(9, 1)}, {list(3, 1, 2, 4, 1, 2), at(0, 0), 1, at(5, 1)}, {nil, at(4, -9), 1, at(5, 1)}, {nil, at(4, 999), 1, at(5, 1)}, {all(), at(0, 0), 9, at(1001, 9)},
		// No such Counter.
		{nil, at(top, 1), 1, at(0, 0)}, {list(1, top), at(0, 0), 1, at(0, 0)}, {list(1, top), at(0, 0), 2, at(0, 0)}, {list(1, 1, 2, top, 3, 1), at(1, 1), 1, at(0, 0)}, {list(1, top+1), at(0, 0), 1, at(0, 0)}, {nil, at(top+1, 1), 1, at(0, 0)}, {nil, at(math.MaxInt, 1), 1, at(0, 0)}, {nil, at(math.MaxInt-1, 1), 1, at(0, 0)}, {list(1, math.MaxInt), at(5, 1), 255, at(0, 0)}, {list(1, math.MaxInt, 2, math.MinInt), at(math.MinInt, 1), 1, at(0, 0)},
		// No such replica.
		{nil, at(0, 0), 0, at(0, 0)}, {nil, at(0, 0), -1, at(0, 0)}, {nil, at(0, 0), 256, at(0, 0)}, {nil, at(0, 0), math.MinInt, at(0, 0)}, {nil, at(0, 0), math.MaxInt, at(0, 0)}, {list(1, 5), at(3, 1), 257, at(0, 0)}, {list(0, 5), at(3, 0), 0, at(0, 0)}, {list(256, 5), at(3, 256), 256, at(0, 0)}, {nil, at(0, 0), 1<<32 + 1, at(0, 0)}, {list(1, top), at(0, 0), 256, at(0, 0)},
	} {
		was := slices.Clone(c.v)
		if got, is := marks.Next(c.v, c.floor, c.replica); got != c.want || is != (c.want != api.Time{}) || !slices.Equal(c.v, was) {
			t.Errorf("Next of %v, %v, %d: %v, %v", was, c.floor, c.replica, got, is)
		}
	}
	for v := range lists {
		for floor := -3; floor <= 4; floor++ {
			want := 1
			for _, m := range v {
				want = max(want, m.Counter+1)
			}
			want = max(want, floor+1)
			if got, is := marks.Next(v, at(floor, 3), 2); got != at(want, 2) || !is {
				t.Fatalf("Next of %v, %d: %v, %v", v, floor, got, is)
			}
		}
	}
}

// P17.5: joined, both are below; nothing else is than what both are below; in whatever order, and however often.
func TestJoined(t *testing.T) {
	var may [][]api.Mark
	for i := range 64 {
		var v []api.Mark
		for replica, counter := range []int{i % 4, i / 4 % 4, i / 16} {
			v = marks.Raise(v, at(counter, 80*replica+1))
		}
		may = append(may, v)
	}
	for _, a := range may {
		for _, b := range may {
			j := marks.Join(a, b)
			if !marks.May(j) || !marks.Below(a, j) || !marks.Below(b, j) || !slices.Equal(j, marks.Join(b, a)) || !slices.Equal(marks.Join(j, a), j) {
				t.Fatalf("Join of %v, %v: %v", a, b, j)
			}
			if marks.Below(a, b) != slices.Equal(j, b) || marks.Below(a, b) && marks.Below(b, a) && !slices.Equal(a, b) {
				t.Fatalf("Below of %v, %v", a, b)
			}
			for _, c := range may {
				if marks.Below(a, c) && marks.Below(b, c) != marks.Below(j, c) {
					t.Fatalf("Join of %v, %v is not below %v", a, b, c)
				}
			}
		}
	}
}

// P17.5: a next Time is behind all that is known, and then known itself; marks that are raised by Times stay well formed.
func TestKnown(t *testing.T) {
	next := numbers()
	for range 200 {
		var v []api.Mark
		var l []api.Move
		floor := at(int(next()%50), int(next()%255)+1)
		for range 60 {
			replica := int(next()%255) + 1
			when, is := marks.Next(v, floor, replica)
			if next()%3 > 0 {
				when = at(int(next()%100)+1, replica)
			} else if !is || !rank.Before(floor, when) || slices.ContainsFunc(l, func(m api.Move) bool { return !rank.Before(m.Time, when) }) {
				t.Fatalf("Next of %v, %v, %d: %v, %v", v, floor, replica, when, is)
			}
			v, l = marks.Raise(v, when), append(l, api.Move{Time: when})
			if !marks.May(v) || !slices.Equal(v, marks.Of(l)) || marks.Get(v, replica) < when.Counter {
				t.Fatalf("raised by %v: %v", when, v)
			}
			for _, m := range l {
				if marks.Get(v, m.Time.Replica) < m.Time.Counter {
					t.Fatalf("%v is not known: %v", m.Time, v)
				}
			}
		}
	}
}

// R5: what is told is new memory, or just what was handed in; room behind what was handed in is not written to.
func TestRoom(t *testing.T) {
	room := list(1, 5, 3, 5, 5, 5, 7, 5)
	was := slices.Clone(room)
	for count := range len(room) + 1 {
		for replica := range 9 {
			raised := marks.Raise(room[:count], at(9, replica))
			joined := marks.Join(room[:count], list(replica, 9, replica+1, 9))
			behind := marks.Join(list(replica, 9), room[:count])
			kept := slices.Clone(joined)
			marks.Next(room[:count], at(9, 9), replica)
			if !slices.Equal(room, was) {
				t.Fatalf("%d of %d changes %v", replica, count, room)
			}
			// Where nothing is raised the list itself may be told.
			if get(was[:count], replica) < 9 {
				for i := range raised {
					raised[i] = api.Mark{}
				}
				_ = append(raised, api.Mark{}, api.Mark{})
			}
			behind[0] = api.Mark{}
			if !slices.Equal(room, was) || !slices.Equal(joined, kept) {
				t.Fatalf("what %d of %d tells is shared: %v", replica, count, room)
			}
		}
	}
	// What was told once is not changed by what is told next from it.
	base := marks.Raise(room[:2], at(6, 3))
	one, two, three := marks.Raise(base, at(1, 9)), marks.Raise(base, at(2, 9)), marks.Raise(base, at(7, 3))
	if one[2].Counter != 1 || two[2].Counter != 2 || len(base) != 2 || base[1].Counter != 6 || three[1].Counter != 7 {
		t.Errorf("two share: %v, %v, %v, %v", base, one, two, three)
	}
	for _, nothing := range [][]api.Mark{marks.Raise(base, at(1, 3)), marks.Join(base, nil), marks.Join(base, base)} {
		again := marks.Join(nothing, list(3, 8, 4, 1))
		if !slices.Equal(nothing, list(1, 5, 3, 6)) || !slices.Equal(again, list(1, 5, 3, 8, 4, 1)) || !slices.Equal(base, list(1, 5, 3, 6)) {
			t.Errorf("changed: %v, %v, %v", base, nothing, again)
		}
	}
}

// R6: no call hangs on what was called ahead.
func TestAgain(t *testing.T) {
	v, w := list(3, 1, 1, 4, 3, 9), list(2, 2, 3, 5)
	l := []api.Move{{Time: at(4, 2)}, {Time: at(9, 1)}, {Time: at(3, 2)}}
	all := func() string {
		one, is := marks.Next(v, at(3, 3), 4)
		none, not := marks.Next(v, at(3, 3), 0)
		return fmt.Sprint(marks.May(v), marks.May(w), marks.Get(v, 3), marks.Get(v, 2), marks.Raise(v, at(5, 2)), marks.Join(v, w), marks.Join(w, v), marks.Below(v, w), marks.Below(w, w), marks.Of(l), one, is, none, not)
	}
	begin := all()
	for range 3 {
		if again := all(); again != begin {
			t.Errorf("%s, again %s", begin, again)
		}
		marks.Raise(w, at(99, 3))
		marks.Join(w, list(2, 77))
		marks.Of([]api.Move{{Time: at(99, 2)}})
	}
}
