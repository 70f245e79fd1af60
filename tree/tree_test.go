package tree_test

import (
	"fmt"
	"math"
	"slices"
	"strings"
	"testing"

	"bonsai/api"
	"bonsai/bits"
	"bonsai/rank"
	"bonsai/tree"
)

const top = 1<<31 - 1

// numbers goes without an end by numbers that look like chance, and are the same each time.
func numbers() func() uint64 {
	u := uint64(0x9e3779b97f4a7c15)
	return func() uint64 {
		u = u*6364136223846793005 + 1442695040888963407
		return u ^ u>>29
	}
}

// rows makes rows of Children and Parents, one behind the other, each with a Name of its own.
func rows(nodes ...int) []api.Row {
	var l []api.Row
	for i := 0; i < len(nodes); i += 2 {
		l = append(l, api.Row{Child: nodes[i], Parent: nodes[i+1], Name: fmt.Sprint("n", i/2), Rank: float64(i)})
	}
	return l
}

// lists goes by all lists of up to four rows of which Child and Parent are 0 to 3, in each order, and with each Child as
// often as there is room; no list is told twice.
func lists(yield func([]api.Row) bool) {
	all := [][]int{nil}
	for begin := 0; begin < len(all); begin++ {
		if !yield(rows(all[begin]...)) {
			return
		}
		if len(all[begin]) == 8 {
			continue
		}
		for child := range 4 {
			for parent := range 4 {
				all = append(all, append(slices.Clone(all[begin]), child, parent))
			}
		}
	}
}

// row tells the first row of that Child.
func row(l []api.Row, child int) (api.Row, bool) {
	for _, r := range l {
		if r.Child == child {
			return r, true
		}
	}
	return api.Row{}, false
}

// path tells by the document's words the path of child.
func path(l []api.Row, child int) ([]int, bool) {
	p := []int{child}
	for r, has := row(l, child); has; r, has = row(l, r.Parent) {
		if slices.Contains(p, r.Parent) {
			return nil, false
		}
		p = append(p, r.Parent)
	}
	if p[len(p)-1] != 0 {
		return nil, false
	}
	return p, true
}

// above tells by the document's words whether a is above b; beyond as many steps as there are rows all comes again.
func above(l []api.Row, a int, b int) bool {
	for range len(l) + 1 {
		r, has := row(l, b)
		if !has {
			return false
		}
		if r.Parent == a {
			return true
		}
		b = r.Parent
	}
	return false
}

// reached tells by the document's words all nodes that are reached.
func reached(l []api.Row) []int {
	nodes := []int{0}
	for _, r := range l {
		if _, is := path(l, r.Child); is && !slices.Contains(nodes, r.Child) {
			nodes = append(nodes, r.Child)
		}
	}
	slices.Sort(nodes)
	return nodes
}

// may tells by the document's words whether l may be a tree, of rows that may be.
func may(l []api.Row) bool {
	for i, r := range l {
		if r.Child < 1 || above(l, r.Child, r.Child) || i > 0 && l[i-1].Child >= r.Child {
			return false
		}
	}
	return true
}

// P12.1: One.
func TestOne(t *testing.T) {
	long := strings.Repeat("a", 64)
	for _, c := range []struct {
		r    api.Row
		want bool
	}{
		{api.Row{}, false}, {api.Row{Child: 1}, true}, {api.Row{Child: top}, true}, {api.Row{Child: top, Parent: top}, true}, {api.Row{Child: 1, Parent: 1}, true}, {api.Row{Child: 5, Parent: 3, Name: "x", Rank: 1}, true},
		{api.Row{Child: 0, Parent: 1}, false}, {api.Row{Child: -1}, false}, {api.Row{Child: top + 1}, false}, {api.Row{Child: math.MinInt}, false}, {api.Row{Child: math.MaxInt}, false}, {api.Row{Child: 1 << 32}, false}, {api.Row{Child: 1<<32 + 1}, false},
		{api.Row{Child: 1, Parent: top}, true}, {api.Row{Child: 1, Parent: -1}, false}, {api.Row{Child: 1, Parent: top + 1}, false}, {api.Row{Child: 1, Parent: math.MinInt}, false}, {api.Row{Child: 1, Parent: math.MaxInt}, false}, {api.Row{Child: 1, Parent: 1 << 32}, false},
		{api.Row{Child: 1, Name: long}, true}, {api.Row{Child: 1, Name: long + "a"}, false}, {api.Row{Child: 1, Name: strings.Repeat("é", 32)}, true}, {api.Row{Child: 1, Name: strings.Repeat("é", 33)}, false}, {api.Row{Child: 1, Name: strings.Repeat("é", 32) + "a"}, false}, {api.Row{Child: 1, Name: strings.Repeat("\U00010000", 16)}, true},
		{api.Row{Child: 1, Name: "\x00"}, true}, {api.Row{Child: 1, Name: "a/b\n"}, true}, {api.Row{Child: 1, Name: "\xff"}, false}, {api.Row{Child: 1, Name: "a\xc3"}, false}, {api.Row{Child: 1, Name: "\xed\xa0\x80"}, false}, {api.Row{Child: 1, Name: "\xc0\x80"}, false}, {api.Row{Child: 1, Name: "\xf4\x90\x80\x80"}, false}, {api.Row{Child: 1, Name: long[:63] + "\xff"}, false},
		{api.Row{Child: 1, Rank: math.NaN()}, true}, {api.Row{Child: 1, Rank: math.Inf(1)}, true}, {api.Row{Child: 1, Rank: math.Inf(-1)}, true}, {api.Row{Child: 1, Rank: math.Copysign(0, -1)}, true}, {api.Row{Child: 1, Rank: 5e-324}, true},
	} {
		if got := tree.One(c.r); got != c.want {
			t.Errorf("One of %+v: %v", c.r, got)
		}
		if got := tree.May([]api.Row{c.r}); got != (c.want && c.r.Child != c.r.Parent) {
			t.Errorf("May of %+v alone: %v", c.r, got)
		}
	}
}

// chain tells count rows, each below the one ahead of it, the first one below Root.
func chain(count int) []api.Row {
	l := make([]api.Row, count)
	for i := range l {
		l[i] = api.Row{Child: i + 1, Parent: i}
	}
	return l
}

// P12.1: May.
func TestMay(t *testing.T) {
	for _, c := range []struct {
		l    []api.Row
		want bool
	}{
		{nil, true}, {[]api.Row{}, true}, {rows(1, 0), true}, {rows(1, 9), true}, {rows(1, 0, 2, 1), true}, {rows(1, 2, 2, 0), true}, {rows(1, 2, 2, 9), true}, {rows(1, 3, 2, 0, 3, 2), true}, {rows(1, 0, top, 1), true}, {rows(1, top, top, 0), true},
		{rows(1, 0, 1, 0), false}, {rows(1, 0, 1, 2), false}, {rows(2, 0, 1, 0), false}, {rows(1, 0, 3, 0, 2, 0), false}, {rows(1, 0, 2, 0, 2, 0), false}, {rows(1, 0, 2, 0, 1, 0), false},
		{rows(1, 1), false}, {rows(1, 2, 2, 1), false}, {rows(1, 2, 2, 2), false}, {rows(1, 2, 2, 3, 3, 2), false}, {rows(1, 2, 2, 3, 3, 1), false}, {rows(1, 0, 2, 3, 3, 4, 4, 2), false}, {rows(1, 0, 2, 1, 3, 3), false},
		{rows(0, 1), false}, {rows(0, 0, 1, 0), false}, {rows(0, 9, 1, 0), false}, {rows(-1, 0, 1, 0), false}, {rows(1, 0, top+1, 1), false}, {rows(1, -1), false}, {rows(1, 0, 2, top+1), false},
		{chain(2000), true}, {chain(2001), false}, {chain(5000), false}, {make([]api.Row, 2001), false},
	} {
		if got := tree.May(c.l); got != c.want {
			t.Errorf("May of %d rows, %.100v: %v", len(c.l), c.l, got)
		}
	}
	wrong := rows(1, 0, 2, 0, 3, 0)
	for i := range wrong {
		l := slices.Clone(wrong)
		l[i].Name = "\xff"
		if tree.May(l) {
			t.Errorf("May of a wrong Name at %d", i)
		}
		l[i].Name = strings.Repeat("a", 65)
		if tree.May(l) {
			t.Errorf("May of a long Name at %d", i)
		}
	}
	for l := range lists {
		if got, want := tree.May(l), may(l); got != want {
			t.Fatalf("May of %v: %v", l, got)
		}
	}
	loop := chain(2000)
	loop[0].Parent = 2000
	if tree.May(loop) {
		t.Error("May of a loop of 2000 rows")
	}
	loop[0].Parent = 2001
	if !tree.May(loop) {
		t.Error("May of 2000 rows below another node")
	}
}

// P12.1: Same.
func TestSame(t *testing.T) {
	r := api.Row{Child: 1, Parent: 2, Name: "n", Rank: 3}
	for _, s := range []api.Row{{Child: 2, Parent: 2, Name: "n", Rank: 3}, {Child: 1, Parent: 1, Name: "n", Rank: 3}, {Child: 1, Parent: 2, Name: "m", Rank: 3}, {Child: 1, Parent: 2, Name: "n", Rank: 4}, {Child: 2, Parent: 1, Name: "n", Rank: 3}, {}} {
		for _, c := range [][2][]api.Row{{{r}, {s}}, {{s}, {r}}, {{r, r}, {r, s}}, {{r, r}, {s, r}}, {{r, s}, {s, r}}, {{r}, {r, s}}, {{r, s}, {r}}} {
			if tree.Same(c[0], c[1]) {
				t.Errorf("Same of %v, %v", c[0], c[1])
			}
		}
		for _, l := range [][]api.Row{{s}, {r, s}, {s, r, s}} {
			if !tree.Same(l, slices.Clone(l)) {
				t.Errorf("not Same: %v", l)
			}
		}
	}
	for _, c := range [][2][]api.Row{{nil, nil}, {nil, {}}, {{}, {}}} {
		if !tree.Same(c[0], c[1]) {
			t.Errorf("not Same: %v, %v", c[0], c[1])
		}
	}
	for _, c := range [][2][]api.Row{{nil, {r}}, {{r}, nil}, {{r, r}, {r}}, {{}, {{}}}} {
		if tree.Same(c[0], c[1]) {
			t.Errorf("Same of %v, %v", c[0], c[1])
		}
	}
	none := math.Float64frombits(0xfff8000000000123)
	ranks := []float64{0, math.Copysign(0, -1), 1, -1, math.Inf(1), math.Inf(-1), 5e-324, math.Nextafter(1, 2), math.NaN()}
	for i, a := range ranks {
		for j, b := range ranks {
			if got := tree.Same([]api.Row{{Child: 1, Rank: a}}, []api.Row{{Child: 1, Rank: b}}); got != (i == j) {
				t.Errorf("Same of ranks %v, %v: %v", a, b, got)
			}
		}
	}
	if !tree.Same([]api.Row{{Rank: none}}, []api.Row{{Rank: math.NaN()}}) {
		t.Error("not Same: two of no number")
	}
}

// P12.2: Find.
func TestFind(t *testing.T) {
	l := []api.Row{{Child: 5, Name: "a"}, {Child: 2, Parent: 7, Name: "b", Rank: 1}, {Child: 5, Name: "c"}, {Child: 0, Name: "d"}, {Child: -3, Parent: -1}}
	for child, at := range map[int]int{5: 0, 2: 1, 0: 3, -3: 4, 7: -1, -1: -1, 3: -1, 6: -1, math.MaxInt: -1, math.MinInt: -1} {
		r, is := tree.Find(l, child)
		if at < 0 && (r != api.Row{} || is) || at >= 0 && (r != l[at] || !is) {
			t.Errorf("Find of %d: %v, %v", child, r, is)
		}
	}
	if r, is := tree.Find(nil, 0); is || r != (api.Row{}) {
		t.Errorf("Find in nothing: %v, %v", r, is)
	}
}

// P12.2: Set and Drop, by hand.
func TestSetDrop(t *testing.T) {
	r := func(child int) api.Row { return api.Row{Child: child, Parent: 77, Name: "set", Rank: -1} }
	for _, c := range []struct {
		l    []api.Row
		r    int
		want []int
	}{
		{nil, 5, []int{-5}}, {nil, 0, []int{0}}, {rows(2, 0, 4, 0), 1, []int{-1, 2, 4}}, {rows(2, 0, 4, 0), 3, []int{2, -3, 4}}, {rows(2, 0, 4, 0), 5, []int{2, 4, -5}}, {rows(2, 0, 4, 0), 2, []int{-2, 4}}, {rows(2, 0, 4, 0), 4, []int{2, -4}},
		{rows(4, 0, 2, 0), 3, []int{-3, 4, 2}}, {rows(4, 0, 2, 0), 2, []int{4, -2}}, {rows(4, 0, 2, 0), 1, []int{-1, 4, 2}}, {rows(4, 0, 2, 0), 5, []int{4, 2, -5}}, {rows(1, 0, 4, 0, 2, 0, 5, 0), 3, []int{1, -3, 4, 2, 5}},
		{rows(2, 0, 2, 0), 2, []int{-2, 2}}, {rows(2, 0, 2, 0), 1, []int{-1, 2, 2}}, {rows(2, 0, 2, 0), 3, []int{2, 2, -3}}, {rows(3, 0, 1, 0, 3, 0, 1, 0), 1, []int{3, -1, 3, 1}},
	} {
		var got []int
		for _, s := range tree.Set(c.l, r(c.r)) {
			if s == r(c.r) {
				s.Child = -s.Child
			}
			got = append(got, s.Child)
		}
		if !slices.Equal(got, c.want) {
			t.Errorf("Set of %v, %d: %v", c.l, c.r, got)
		}
	}
	l := rows(3, 0, 1, 3, 3, 1, 2, 0)
	for child, want := range map[int][]api.Row{3: {l[1], l[2], l[3]}, 1: {l[0], l[2], l[3]}, 2: l[:3], 0: l, 4: l, -1: l} {
		if got := tree.Drop(l, child); !slices.Equal(got, want) {
			t.Errorf("Drop of %d: %v", child, got)
		}
	}
	if got := tree.Drop(rows(1, 0), 1); len(got) != 0 {
		t.Errorf("Drop of the only one: %v", got)
	}
	if got := tree.Drop(nil, 1); len(got) != 0 {
		t.Errorf("Drop in nothing: %v", got)
	}
}

// P12.2: Find, Set and Drop of all short lists, and that none of them changes what it was handed.
func TestLists(t *testing.T) {
	for l := range lists {
		was := slices.Clone(l)
		for child := -1; child <= 4; child++ {
			first := slices.IndexFunc(was, func(r api.Row) bool { return r.Child == child })
			next := slices.IndexFunc(was, func(r api.Row) bool { return r.Child > child })
			if next < 0 {
				next = len(was)
			}
			r := api.Row{Child: child, Parent: 8, Name: "set"}
			var set, drop []api.Row
			for i, s := range was {
				if first < 0 && i == next {
					set = append(set, r)
				}
				if i == first {
					set = append(set, r)
					continue
				}
				set, drop = append(set, s), append(drop, s)
			}
			if first < 0 && next == len(was) {
				set = append(set, r)
			}
			if got := tree.Set(l, r); !slices.Equal(got, set) {
				t.Fatalf("Set of %v, %d: %v", was, child, got)
			}
			if got := tree.Drop(l, child); !slices.Equal(got, drop) {
				t.Fatalf("Drop of %v, %d: %v", was, child, got)
			}
			want, has := row(was, child)
			if got, is := tree.Find(l, child); got != want || is != has {
				t.Fatalf("Find of %v, %d: %v, %v", was, child, got, is)
			}
		}
		if !slices.Equal(l, was) {
			t.Fatalf("%v changed: %v", was, l)
		}
	}
}

// P12.3 to P12.5: Above, Path and Reached of all short lists.
func TestWays(t *testing.T) {
	for l := range lists {
		was := slices.Clone(l)
		for b := -1; b <= 4; b++ {
			for a := -1; a <= 4; a++ {
				if got, want := tree.Above(l, a, b), above(was, a, b); got != want {
					t.Fatalf("Above of %v, %d, %d: %v", was, a, b, got)
				}
			}
			want, has := path(was, b)
			if got, is := tree.Path(l, b); !slices.Equal(got, want) || is != has {
				t.Fatalf("Path of %v, %d: %v, %v", was, b, got, is)
			}
		}
		if got, want := tree.Reached(l), reached(was); !slices.Equal(got, want) {
			t.Fatalf("Reached of %v: %v, not %v", was, got, want)
		}
		if !slices.Equal(l, was) {
			t.Fatalf("%v changed: %v", was, l)
		}
	}
}

// P12.3 to P12.5: by hand, also of rows that may not be.
func TestWaysByHand(t *testing.T) {
	l := rows(8, 1, 2, 1, 1, 0, 4, 9, 5, 4, 6, 6, 7, 6, -3, 2, -4, -5, 1, 9)
	for child, want := range map[int][]int{0: {0}, 1: {1, 0}, 2: {2, 1, 0}, 8: {8, 1, 0}, -3: {-3, 2, 1, 0}, 4: nil, 5: nil, 6: nil, 7: nil, 9: nil, -4: nil, -5: nil, 77: nil, math.MaxInt: nil, math.MinInt: nil} {
		if got, is := tree.Path(l, child); !slices.Equal(got, want) || is != (want != nil) {
			t.Errorf("Path of %d: %v, %v", child, got, is)
		}
	}
	if got := tree.Reached(l); !slices.Equal(got, []int{-3, 0, 1, 2, 8}) {
		t.Errorf("Reached: %v", got)
	}
	for c, want := range map[[2]int]bool{
		{0, 1}: true, {0, 2}: true, {0, -3}: true, {1, -3}: true, {2, -3}: true, {1, 8}: true, {9, 4}: true, {9, 5}: true, {4, 5}: true, {6, 6}: true, {6, 7}: true, {-5, -4}: true,
		{9, 1}: false, {1, 1}: false, {2, 1}: false, {0, 0}: false, {0, 5}: false, {7, 6}: false, {7, 7}: false, {0, 7}: false, {0, 77}: false, {77, 77}: false, {5, 4}: false, {8, 2}: false, {0, -4}: false, {-5, -5}: false,
	} {
		if got := tree.Above(l, c[0], c[1]); got != want {
			t.Errorf("Above of %v: %v", c, got)
		}
	}
	// Root with a row of its own is no end of a path.
	for _, root := range [][]api.Row{rows(1, 0, 0, 5), rows(0, 0, 1, 0), rows(1, 0, 0, 1), rows(0, -1, 1, 0)} {
		for node := range 2 {
			if got, is := tree.Path(root, node); len(got) != 0 || is {
				t.Errorf("Path of %v, %d: %v", root, node, got)
			}
		}
		if got := tree.Reached(root); !slices.Equal(got, []int{0}) {
			t.Errorf("Reached of %v: %v", root, got)
		}
	}
	for _, none := range [][]api.Row{nil, {}, rows(1, 2, 2, 1)} {
		if got := tree.Reached(none); !slices.Equal(got, []int{0}) {
			t.Errorf("Reached of %v: %v", none, got)
		}
	}
}

// P12.3 to P12.5: of chains and loops too long to go by each node's path anew, in both orders.
func TestLong(t *testing.T) {
	const count = 100000
	l := chain(count)
	back := slices.Clone(l)
	slices.Reverse(back)
	for _, l := range [][]api.Row{l, back} {
		way, is := tree.Path(l, count)
		if !is || len(way) != count+1 || way[0] != count || way[count] != 0 {
			t.Errorf("Path of a chain: %d nodes, %v", len(way), is)
		}
		slices.Reverse(way)
		if got := tree.Reached(l); !slices.Equal(got, way) {
			t.Errorf("Reached of a chain: %d nodes", len(got))
		}
		if !tree.Above(l, 0, count) || !tree.Above(l, 1, count) || tree.Above(l, count, 1) || tree.Above(l, count, count) || tree.Above(l, -1, count) {
			t.Error("Above of a chain")
		}
	}
	l[0].Parent, back[count-1].Parent = count, count
	for _, l := range [][]api.Row{l, back} {
		if way, is := tree.Path(l, count); is || len(way) != 0 {
			t.Errorf("Path of a loop: %d nodes, %v", len(way), is)
		}
		if got := tree.Reached(l); !slices.Equal(got, []int{0}) {
			t.Errorf("Reached of a loop: %d nodes", len(got))
		}
		if !tree.Above(l, count, 1) || !tree.Above(l, count, count) || !tree.Above(l, 1, 1) || tree.Above(l, 0, count) {
			t.Error("Above of a loop")
		}
	}
}

// P12.3 to P12.5: of more loops than can be gone by anew for each row.
func TestManyLoops(t *testing.T) {
	var l []api.Row
	for child := 100000; child > 0; child-- {
		l = append(l, api.Row{Child: child, Parent: child})
	}
	l = append(l, api.Row{Child: 100001})
	if got := tree.Reached(l); !slices.Equal(got, []int{0, 100001}) {
		t.Errorf("Reached beside loops: %d nodes", len(got))
	}
	if way, is := tree.Path(l, 7); is || len(way) != 0 {
		t.Errorf("Path of a loop: %v", way)
	}
	if !tree.Above(l, 7, 7) || tree.Above(l, 8, 7) || tree.Above(l, 0, 7) {
		t.Error("Above of a loop")
	}
}

// P12.2 to P12.5: of many rows of one Child the first one counts.
func TestFirst(t *testing.T) {
	next := numbers()
	for range 20 {
		var l []api.Row
		for range 200 {
			l = append(l, api.Row{Child: int(next()%20) - 1, Parent: int(next()%10) * int(next()%3)})
		}
		// Root has no row in half of them.
		if next()%2 == 0 {
			l = slices.DeleteFunc(l, func(r api.Row) bool { return r.Child == 0 })
		}
		for b := -1; b < 20; b++ {
			want, has := path(l, b)
			if got, is := tree.Path(l, b); !slices.Equal(got, want) || is != has {
				t.Errorf("Path of %v, %d: %v, %v", l, b, got, is)
			}
			for a := -1; a < 20; a++ {
				if got, want := tree.Above(l, a, b), above(l, a, b); got != want {
					t.Errorf("Above of %v, %d, %d: %v", l, a, b, got)
				}
			}
		}
		if got, want := tree.Reached(l), reached(l); !slices.Equal(got, want) {
			t.Errorf("Reached of %v: %v, not %v", l, got, want)
		}
	}
}

// P12.4: Kids.
func TestKids(t *testing.T) {
	nought := math.Copysign(0, -1)
	kid := func(child int, rank float64, name string) api.Row {
		return api.Row{Child: child, Parent: 1, Name: name, Rank: rank}
	}
	want := []api.Row{
		kid(9, math.Inf(-1), ""), kid(8, -1, ""), kid(7, -5e-324, ""), kid(3, nought, ""), kid(6, nought, ""), kid(2, 0, ""), kid(4, 0, "z"), kid(4, 0, "a"), kid(4, 0, "m"), kid(5, 5e-324, ""),
		kid(-1, 1, ""), kid(1, 1, "z"), kid(1, 1, "y"), kid(10, math.Inf(1), ""), kid(0, math.NaN(), ""), kid(11, math.Float64frombits(0xfff0000000000001), ""),
	}
	next := numbers()
	for range 300 {
		l := slices.Clone(want)
		for i := range l {
			j := i + int(next()%uint64(len(l)-i))
			l[i], l[j] = l[j], l[i]
		}
		// Those that stand alike keep their order.
		for _, child := range []int{4, 1} {
			var alike []api.Row
			for _, r := range want {
				if r.Child == child {
					alike = append(alike, r)
				}
			}
			for i := range l {
				if l[i].Child == child {
					l[i], alike = alike[0], alike[1:]
				}
			}
		}
		l = slices.Insert(l, int(next()%8), api.Row{Child: 1, Parent: 2}, api.Row{Child: 12, Parent: 0}, api.Row{Child: 1, Parent: -1})
		was := slices.Clone(l)
		if got := tree.Kids(l, 1); !tree.Same(got, want) {
			t.Fatalf("Kids of %v: %v", was, got)
		}
		if !tree.Same(l, was) {
			t.Fatalf("%v changed: %v", was, l)
		}
	}
	l := rows(3, 0, 1, 0, 2, 5, 1, 5)
	for parent, want := range map[int][]api.Row{0: l[:2], 5: l[2:], 1: nil, 3: nil, -1: nil, math.MaxInt: nil} {
		if got := tree.Kids(l, parent); !slices.Equal(got, want) {
			t.Errorf("Kids of %d: %v", parent, got)
		}
	}
	if got := tree.Kids(nil, 0); len(got) != 0 {
		t.Errorf("Kids of nothing: %v", got)
	}
}

// P12.4: Kids of many, that stand by rank.Less; the Names tell where each stood.
func TestManyKids(t *testing.T) {
	next := numbers()
	var l []api.Row
	for i := range 1000 {
		l = append(l, api.Row{Child: int(next() % 8), Parent: int(next() % 2), Name: fmt.Sprintf("%04d", i), Rank: float64(next() % 5)})
	}
	for parent := range 2 {
		got := tree.Kids(l, parent)
		count := 0
		for _, r := range l {
			if r.Parent == parent {
				count++
			}
		}
		if len(got) != count {
			t.Errorf("Kids of %d: %d", parent, len(got))
		}
		for i := range got {
			if got[i].Parent != parent {
				t.Errorf("a kid of %d: %v", parent, got[i])
			}
			if i > 0 && (rank.Less(got[i], got[i-1]) || !rank.Less(got[i-1], got[i]) && got[i-1].Name >= got[i].Name) {
				t.Errorf("Kids of %d: %v ahead of %v", parent, got[i-1], got[i])
			}
		}
	}
}

// P12.6: of a tree Above is an order, and a node is reached just if Root is it, or above it.
func TestOrder(t *testing.T) {
	next := numbers()
	for range 60 {
		var l []api.Row
		for child := 1; child <= 12; child++ {
			if next()%5 > 0 {
				r := api.Row{Child: child, Parent: int(next() % 14)}
				if !tree.Above(l, child, r.Parent) && r.Parent != child {
					l = append(l, r)
				}
			}
		}
		if !tree.May(l) {
			t.Fatalf("no tree: %v", l)
		}
		nodes := tree.Reached(l)
		for a := range 14 {
			if tree.Above(l, a, a) {
				t.Errorf("%v: %d above itself", l, a)
			}
			if got, want := slices.Contains(nodes, a), a == 0 || tree.Above(l, 0, a); got != want {
				t.Errorf("%v: %d reached: %v", l, a, got)
			}
			for b := range 14 {
				for c := range 14 {
					if tree.Above(l, a, b) && tree.Above(l, b, c) && !tree.Above(l, a, c) {
						t.Errorf("%v: %d above %d above %d", l, a, b, c)
					}
				}
			}
		}
	}
}

// R5: what is told is new memory: a change of it is none of what was handed in, or of what is told next.
func TestApart(t *testing.T) {
	l := rows(1, 0, 2, 1, 3, 1)
	was := slices.Clone(l)
	spoil := func(name string, of func() []api.Row) {
		first := of()
		kept := slices.Clone(first)
		for i := range first {
			first[i] = api.Row{Child: -9, Parent: -9, Name: "x", Rank: 9}
		}
		_ = append(first, api.Row{Child: -8})
		if got := of(); !slices.Equal(got, kept) || !slices.Equal(l, was) {
			t.Errorf("%s shares: %v, %v", name, got, l)
		}
	}
	spoil("Set instead", func() []api.Row { return tree.Set(l, api.Row{Child: 2, Parent: 3}) })
	spoil("Set behind", func() []api.Row { return tree.Set(l, api.Row{Child: 4}) })
	spoil("Set behind a part", func() []api.Row { return tree.Set(l[:1], api.Row{Child: 4}) })
	spoil("Set ahead", func() []api.Row { return tree.Set(l, api.Row{}) })
	spoil("Drop", func() []api.Row { return tree.Drop(l, 1) })
	spoil("Drop of the last one", func() []api.Row { return tree.Drop(l, 3) })
	spoil("Drop of none", func() []api.Row { return tree.Drop(l, 9) })
	spoil("Drop in a part", func() []api.Row { return tree.Drop(l[:2], 9) })
	spoil("Kids", func() []api.Row { return tree.Kids(l, 1) })
	nodes, _ := tree.Path(l, 2)
	nodes[0] = 9
	all := tree.Reached(l)
	all[0] = 9
	if got, _ := tree.Path(l, 2); !slices.Equal(got, []int{2, 1, 0}) || !slices.Equal(tree.Reached(l), []int{0, 1, 2, 3}) {
		t.Errorf("Path shares: %v", got)
	}
}

// R5 and R6: no call changes what it is handed, and none hangs on what was called ahead.
func TestAgain(t *testing.T) {
	l := []api.Row{{Child: 3, Parent: 1, Rank: 2}, {Child: 1, Rank: math.NaN()}, {Child: 2, Parent: 1, Rank: 1}, {Child: 1, Parent: 3}, {Child: 5, Parent: 5}}
	was := slices.Clone(l)
	all := func() string {
		way, is := tree.Path(l, 3)
		r, has := tree.Find(l, 1)
		return fmt.Sprint(tree.One(l[0]), tree.May(l), tree.May(l[:1]), r, has, tree.Set(l, api.Row{Child: 1}), tree.Drop(l, 1), tree.Above(l, 0, 3), tree.Above(l, 5, 5), tree.Kids(l, 1), way, is, tree.Reached(l), tree.Same(l, was))
	}
	first := all()
	for range 3 {
		if again := all(); again != first {
			t.Errorf("%s, again %s", first, again)
		}
		for i := range l {
			if l[i].Child != was[i].Child || l[i].Parent != was[i].Parent || bits.Bits(l[i].Rank) != bits.Bits(was[i].Rank) {
				t.Errorf("row %d changed: %v", i, l[i])
			}
		}
		tree.Reached(rows(3, 0, 1, 3))
		tree.Path(nil, 0)
	}
}
