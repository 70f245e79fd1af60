package play_test

import (
	"fmt"
	"math"
	"slices"
	"strings"
	"testing"

	"bonsai/api"
	"bonsai/floor"
	"bonsai/marks"
	"bonsai/moves"
	"bonsai/play"
	"bonsai/store"
	"bonsai/tree"
)

const node = 1<<31 - 1

// minus is nought with a minus, none is no number.
func minus() float64 { return math.Copysign(0, -1) }
func none() float64  { return math.NaN() }

// numbers goes without an end by numbers that look like chance, and are the same each time.
func numbers() func() uint64 {
	u := uint64(0x9e3779b97f4a7c15)
	return func() uint64 {
		u = u*6364136223846793005 + 1442695040888963407
		return u ^ u>>29
	}
}

// at tells a Time.
func at(counter int, replica int) api.Time {
	return api.Time{Counter: counter, Replica: replica}
}

// local, named, deliver, prune and reload make deeds.
func local(who int, child int, parent int) api.Deed {
	return api.Deed{Kind: 1, Who: who, Child: child, Parent: parent}
}

func named(who int, child int, parent int, name string, f float64) api.Deed {
	return api.Deed{Kind: 1, Who: who, Child: child, Parent: parent, Name: name, Rank: f}
}

func deliver(who int, number int) api.Deed {
	return api.Deed{Kind: 2, Who: who, At: number}
}

func prune(who int, counter int, replica int) api.Deed {
	return api.Deed{Kind: 3, Who: who, At: counter, From: replica}
}

func reload(who int) api.Deed {
	return api.Deed{Kind: 4, Who: who}
}

// list makes marks of Replicas and Counters, one behind the other.
func list(numbers ...int) []api.Mark {
	var v []api.Mark
	for i := 0; i < len(numbers); i += 2 {
		v = append(v, api.Mark{Replica: numbers[i], Counter: numbers[i+1]})
	}
	return v
}

// show tells v so that it can be read, where there is not too much of it.
func show(v any) string {
	return fmt.Sprintf("%.300s", fmt.Sprintf("%+v", v))
}

// same tells by the document's words whether a and b are the same, field by field.
func same(a api.Replica, b api.Replica) bool {
	return tree.Same(a.Base, b.Base) && a.Floor == b.Floor && moves.Same(a.Log, b.Log) && slices.Equal(a.Marks, b.Marks)
}

// world is what a World is by the document's words.
type world struct {
	all  []api.Replica
	pool []api.Move
}

// step tells by the document's words what Step is to tell, and does it.
func (w *world) step(d api.Deed) api.Errno {
	if d.Who < 1 || d.Who > len(w.all) {
		return api.ErrArg
	}
	who := &w.all[d.Who-1]
	var r api.Replica
	var e api.Errno
	switch d.Kind {
	case 1:
		t, is := marks.Next(who.Marks, who.Floor, d.Who)
		if !is {
			return api.ErrBig
		}
		m := api.Move{Time: t, Parent: d.Parent, Child: d.Child, Name: d.Name, Rank: d.Rank}
		if r, _, e = floor.Add(*who, m); e == api.OK {
			w.pool = append(w.pool, m)
		}
	case 2:
		if d.At < 0 || d.At >= len(w.pool) {
			return api.ErrArg
		}
		r, _, e = floor.Add(*who, w.pool[d.At])
	case 3:
		r, e = floor.Prune(*who, at(d.At, d.From))
	case 4:
		s, _ := store.Save(*who)
		r, e = store.Load(s)
	default:
		return api.ErrArg
	}
	if e == api.OK {
		*who = r
	}
	return e
}

// made is a world of n replicas.
func made(n int) *world {
	return &world{all: make([]api.Replica, n)}
}

// check holds all that w tells against what it is to be.
func check(t *testing.T, w *play.World, want *world) {
	t.Helper()
	if n := w.Len(); n != len(want.all) {
		t.Fatalf("Len: %d, not %d", n, len(want.all))
	}
	if got := w.Pool(); !moves.Same(got, want.pool) {
		t.Fatalf("Pool: %s, not %s", show(got), show(want.pool))
	}
	for i, r := range want.all {
		if got, is := w.Replica(i + 1); !same(got, r) || !is {
			t.Fatalf("Replica of %d: %s, %v, not %s", i+1, show(got), is, show(r))
		}
		if got := w.Tree(i + 1); !tree.Same(got, floor.Tree(r)) {
			t.Fatalf("Tree of %d: %s, not %s", i+1, show(got), show(floor.Tree(r)))
		}
		s, e := store.Save(r)
		if got, err := w.File(i + 1); got != s || err != e {
			t.Fatalf("File of %d: %.100q, %d, not %.100q, %d", i+1, got, err, s, e)
		}
	}
	for _, who := range []int{math.MinInt, -1, 0, len(want.all) + 1, 9, 256, math.MaxInt} {
		checkNobody(t, w, who)
	}
}

// checkNobody holds what w tells of a replica that there is not.
func checkNobody(t *testing.T, w *play.World, who int) {
	t.Helper()
	if got, is := w.Replica(who); !same(got, api.Replica{}) || is {
		t.Errorf("Replica of %d: %s, %v", who, show(got), is)
	}
	if got := w.Tree(who); len(got) != 0 {
		t.Errorf("Tree of %d: %s", who, show(got))
	}
	if got, e := w.File(who); got != "" || e != api.ErrArg {
		t.Errorf("File of %d: %.100q, %d", who, got, e)
	}
	for kind := -1; kind <= 5; kind++ {
		if e := w.Step(api.Deed{Kind: kind, Who: who, Child: 1, At: 1, From: 1}); e != api.ErrArg {
			t.Errorf("Step of kind %d for %d: %d", kind, who, e)
		}
	}
}

// do does d in both worlds.
func do(t *testing.T, w *play.World, want *world, d api.Deed) api.Errno {
	t.Helper()
	e := want.step(d)
	if got := w.Step(d); got != e {
		t.Fatalf("Step of %+v: %d, not %d", d, got, e)
	}
	return e
}

// fill does deeds that tell no error.
func fill(t *testing.T, w *play.World, l ...api.Deed) {
	t.Helper()
	for _, d := range l {
		if e := w.Step(d); e != api.OK {
			t.Fatalf("Step of %+v: %d", d, e)
		}
	}
}

// some tells a deed by chance, wrong in many ways, in a world of n replicas and a Pool of count moves.
func some(next func() uint64, n int, count int) api.Deed {
	names := []string{"", "a", "\xc3\xa4", strings.Repeat("x", 64)}
	ranks := []float64{0, minus(), 1, none(), math.Inf(-1), 0x1p-1074}
	d := api.Deed{Kind: int(next()%4) + 1, Who: int(next()%uint64(n)) + 1}
	switch next() % 4 {
	case 0:
		d.Kind = 1
	case 1:
		d.Kind = 2
	}
	switch d.Kind {
	case 1:
		d.Child, d.Parent, d.Name, d.Rank = int(next()%6)+1, int(next()%7), names[next()%4], ranks[next()%6]
	case 2:
		d.At = int(next() % uint64(count+1))
	case 3:
		d.At, d.From = int(next()%uint64(count+2)), int(next()%uint64(n))+1
	}
	// Whatever a kind does not ask for is of no moment to it.
	if d.Kind != 1 && next()%4 == 0 {
		d.Child, d.Parent, d.Name, d.Rank = -1, -1, "\xff", none()
	}
	switch next() % 60 {
	case 0:
		d.Child = -int(next() % 2)
	case 1:
		d.Parent = -1
	case 2:
		d.Kind = int(next()%4)*5 - 5
	case 3:
		d.Who = int(next()%2) * (n + 1)
	case 4:
		d.At = -1
	case 5:
		d.From = int(next()) % 300
	}
	return d
}

// P24.1: how many replicas a World may have, each without anything.
func TestNew(t *testing.T) {
	for n := 1; n <= 8; n++ {
		w := play.New(n)
		if w == nil {
			t.Fatalf("New of %d is nil", n)
		}
		check(t, w, made(n))
		if s, _ := w.File(n); len(s) != 68 {
			t.Errorf("a file of nothing has %d bytes", len(s))
		}
	}
	for _, n := range []int{math.MinInt, -8, -1, 0, 9, 10, 255, math.MaxInt} {
		if w := play.New(n); w != nil {
			t.Errorf("New of %d: %v", n, w)
		}
	}
}

// P24.2: deeds by hand, each with what it tells, and what comes of them.
func TestKnown(t *testing.T) {
	w := play.New(3)
	for i, c := range []struct {
		d api.Deed
		e api.Errno
	}{
		{named(1, 1, 0, "a", 1), api.OK},
		{deliver(2, 0), api.OK},
		{local(2, 2, 1), api.OK},
		{local(3, 3, 0), api.OK},
		{deliver(1, 2), api.OK},
		{local(1, 1, 3), api.OK},
		{deliver(1, 1), api.OK},
		{deliver(1, 1), api.OK},
		{deliver(1, 4), api.ErrArg},
		{deliver(1, -1), api.ErrArg},
		{local(1, 0, 0), api.ErrArg},
		{local(1, 5, -1), api.ErrArg},
		{named(1, 5, 0, "\xff", 0), api.ErrArg},
		{prune(1, 2, 2), api.OK},
		{deliver(1, 0), api.ErrStale},
		{prune(1, 1, 1), api.OK},
		{prune(1, 3, 2), api.ErrArg},
		{prune(1, 0, 1), api.ErrArg},
		{reload(1), api.OK},
		{deliver(3, 3), api.OK},
		{local(3, 3, 1), api.OK},
		{deliver(1, 4), api.OK},
		{local(2, 9, 9), api.OK},
	} {
		if e := w.Step(c.d); e != c.e {
			t.Errorf("step %d, %+v: %d, not %d", i, c.d, e, c.e)
		}
	}
	a, b := api.Row{Child: 1, Name: "a", Rank: 1}, api.Row{Child: 2, Parent: 1}
	pool := []api.Move{
		{Time: at(1, 1), Child: 1, Name: "a", Rank: 1},
		{Time: at(2, 2), Child: 2, Parent: 1},
		{Time: at(1, 3), Child: 3},
		{Time: at(2, 1), Child: 1, Parent: 3},
		{Time: at(3, 3), Child: 3, Parent: 1},
		{Time: at(3, 2), Child: 9, Parent: 9},
	}
	check(t, w, &world{pool: pool, all: []api.Replica{
		{Base: []api.Row{{Child: 1, Parent: 3}, b, {Child: 3}}, Floor: at(2, 2), Log: pool[4:5], Marks: list(1, 2, 2, 2, 3, 3)},
		{Log: []api.Move{pool[0], pool[1], pool[5]}, Marks: list(1, 1, 2, 3)},
		{Log: []api.Move{pool[2], pool[3], pool[4]}, Marks: list(1, 2, 3, 3)},
	}})
	for who, want := range [][]api.Row{{{Child: 1, Parent: 3}, b, {Child: 3}}, {a, b}, {{Child: 1, Parent: 3}, {Child: 3}}} {
		if got := w.Tree(who + 1); !tree.Same(got, want) {
			t.Errorf("Tree of %d: %v", who+1, got)
		}
	}
}

// P24.2: a move that is made is behind all that its replica knows, and that one alone has it.
func TestLocal(t *testing.T) {
	w := play.New(8)
	for who := 8; who >= 1; who-- {
		fill(t, w, named(who, who, node, "n", minus()))
	}
	for who := 1; who <= 8; who++ {
		m := w.Pool()[8-who]
		if m.Time != at(1, who) || m.Child != who || m.Parent != node || m.Name != "n" || !math.Signbit(m.Rank) {
			t.Errorf("%d made %+v", who, m)
		}
		if r, _ := w.Replica(who); !moves.Same(r.Log, []api.Move{m}) || !slices.Equal(r.Marks, list(who, 1)) {
			t.Errorf("%d is %+v", who, r)
		}
	}
	fill(t, w, local(5, 1, 0), local(5, 2, 0), deliver(1, 9), local(1, 3, 0), deliver(2, 8), local(2, 3, 0), local(3, 3, 0))
	var all []api.Time
	for _, m := range w.Pool()[8:] {
		all = append(all, m.Time)
	}
	if !slices.Equal(all, []api.Time{at(2, 5), at(3, 5), at(4, 1), at(3, 2), at(2, 3)}) {
		t.Errorf("the times are %v", all)
	}
	// What may be is as great as may be, and no greater.
	fill(t, w, named(1, node, node, strings.Repeat("\xc3\xa4", 32), none()))
	count := len(w.Pool())
	for _, d := range []api.Deed{local(1, 0, 0), local(1, -1, 0), local(1, node+1, 0), local(1, 1, -1), local(1, 1, node+1), named(1, 1, 0, strings.Repeat("a", 65), 0), named(1, 1, 0, "\xc3", 0)} {
		r, _ := w.Replica(1)
		if e := w.Step(d); e != api.ErrArg {
			t.Errorf("Step of %+v: %d", d, e)
		}
		if got, _ := w.Replica(1); !same(got, r) || len(w.Pool()) != count {
			t.Errorf("Step of %+v: %+v, %d moves", d, got, len(w.Pool()))
		}
	}
}

// P24.2: whatever a replica settled, its next move is behind that, be there no move left.
func TestLocalSettled(t *testing.T) {
	w := play.New(2)
	fill(t, w, local(1, 1, 0), local(1, 2, 1), local(1, 1, 2), deliver(2, 2), prune(2, 3, 1), reload(2), local(2, 5, 0))
	r, _ := w.Replica(2)
	if m := w.Pool()[3]; m.Time != at(4, 2) || len(r.Base) != 1 || r.Floor != at(3, 1) || !slices.Equal(r.Marks, list(1, 3, 2, 4)) {
		t.Errorf("%+v, %+v", m, r)
	}
}

// P24.2: a move is delivered by its number in the Pool.
func TestDeliver(t *testing.T) {
	w := play.New(2)
	if e := w.Step(deliver(2, 0)); e != api.ErrArg {
		t.Errorf("Step of a move that there is not: %d", e)
	}
	for i := range 600 {
		fill(t, w, named(1, i%7+1, 0, fmt.Sprint(i), float64(i)))
	}
	for _, number := range []int{599, 0, 255, 256, 257, 511, 512, 513, 300, 255} {
		fill(t, w, deliver(2, number))
		r, _ := w.Replica(2)
		if !slices.ContainsFunc(r.Log, func(m api.Move) bool { return m.Name == fmt.Sprint(number) && m.Time.Counter == number+1 }) {
			t.Errorf("move %d is not delivered: %v", number, r.Log)
		}
	}
	r, _ := w.Replica(2)
	if len(r.Log) != 9 || !slices.Equal(r.Marks, list(1, 600)) {
		t.Errorf("there are %d moves: %+v", len(r.Log), r)
	}
	for _, number := range []int{600, 601, 767, 768, 1000, 1 << 40, math.MaxInt, -1, -256, -600, math.MinInt} {
		if e := w.Step(deliver(2, number)); e != api.ErrArg {
			t.Errorf("Step of move %d: %d", number, e)
		}
	}
	for i, m := range w.Pool() {
		if m.Name != fmt.Sprint(i) || m.Time != at(i+1, 1) || m.Child != i%7+1 || m.Rank != float64(i) {
			t.Errorf("move %d is %+v", i, m)
		}
	}
	if got, _ := w.Replica(2); !same(got, r) || len(w.Pool()) != 600 {
		t.Errorf("what was wrong changed %+v to %+v", r, got)
	}
}

// P24.2: Prune is told the Time by At and From, and is floor's.
func TestPrune(t *testing.T) {
	for _, d := range []api.Deed{prune(1, 1, 1), prune(1, 2, 1), prune(1, 3, 1), prune(1, 4, 1), prune(1, 2, 2), prune(1, 1, 2), prune(1, 3, 2), prune(1, 1, 3), prune(1, 0, 0), prune(1, -1, 1), prune(1, 1, 0), prune(1, 1, 256), prune(1, math.MaxInt, 1), prune(1, math.MinInt, math.MinInt)} {
		w, want := play.New(2), made(2)
		for _, one := range []api.Deed{local(1, 1, 0), local(2, 2, 0), local(2, 1, 2), deliver(1, 2), local(1, 2, 1), d, prune(1, 1, 2), d} {
			do(t, w, want, one)
			check(t, w, want)
		}
	}
}

// P24.2, P24.1: as much as may be: 2000 moves, and 2000 Children, and no more, until some are settled.
func TestBig(t *testing.T) {
	w := play.New(3)
	for i := range 2000 {
		fill(t, w, local(1, i%3+1, 0))
	}
	before, _ := w.Replica(1)
	fill(t, w, local(2, 9, 0))
	for _, d := range []api.Deed{local(1, 1, 0), local(1, 9, 0), deliver(1, 2000)} {
		if e := w.Step(d); e != api.ErrBig {
			t.Errorf("Step of %+v: %d", d, e)
		}
	}
	// What may not be goes ahead of what is too much.
	if e := w.Step(local(1, 0, 0)); e != api.ErrArg {
		t.Errorf("Step: %d", e)
	}
	if r, _ := w.Replica(1); !same(r, before) || len(w.Pool()) != 2001 {
		t.Errorf("what was too much changed something: %d moves", len(w.Pool()))
	}
	fill(t, w, deliver(1, 7), prune(1, 1, 1), deliver(1, 2000), prune(1, 1000, 1), local(1, 9, 0))
	if r, _ := w.Replica(1); len(r.Log) != 1001 || len(r.Base) != 4 || len(w.Pool()) != 2002 {
		t.Errorf("there are %d moves and %d rows", len(r.Log), len(r.Base))
	}
	for i := range 2000 {
		fill(t, w, local(3, i+1, 0))
		if i == 999 {
			fill(t, w, prune(3, 900, 3))
		}
	}
	count := len(w.Pool())
	if e := w.Step(local(3, 2001, 0)); e != api.ErrBig || len(w.Pool()) != count {
		t.Errorf("Step of one Child too many: %d", e)
	}
	fill(t, w, local(3, 2000, 2001), reload(3), local(3, 1, 2000))
	if rows := w.Tree(3); len(rows) != 2000 || !tree.May(rows) {
		t.Errorf("there are %d rows", len(rows))
	}
}

// P24.1, P24.2, P24.3: scripts by chance, step by step and at once.
func TestMany(t *testing.T) {
	next := numbers()
	told := map[string]int{}
	for range 120 {
		n := int(next()%8) + 1
		w, want := play.New(n), made(n)
		var l []api.Deed
		var errs []api.Errno
		for range 60 {
			d := some(next, n, len(want.pool))
			e := do(t, w, want, d)
			check(t, w, want)
			l, errs = append(l, d), append(errs, e)
			told[fmt.Sprint(d.Kind, e)]++
		}
		again, got := play.Run(n, l)
		if !slices.Equal(got, errs) {
			t.Fatalf("Run of %+v: %v, not %v", l, got, errs)
		}
		check(t, again, want)
	}
	for _, is := range []string{"1 0", "1 1", "2 0", "2 1", "2 9", "3 0", "3 1", "4 0", "4 1", "0 1", "5 1", "-5 1", "10 1"} {
		if told[is] < 3 {
			t.Errorf("%q told %d times, of %v", is, told[is], told)
		}
	}
}

// P24.3: scripts of a world that there is not, and of no deeds.
func TestRun(t *testing.T) {
	l := []api.Deed{local(1, 1, 0), {}, reload(1), deliver(1, 0), prune(1, 1, 1), {Kind: 9, Who: 9}}
	for _, n := range []int{math.MinInt, -1, 0, 9, math.MaxInt} {
		for count := range len(l) + 1 {
			w, errs := play.Run(n, l[:count])
			if w != nil || !slices.Equal(errs, slices.Repeat([]api.Errno{api.ErrArg}, count)) {
				t.Errorf("Run of %d: %v, %v", n, w, errs)
			}
		}
	}
	for n := 1; n <= 8; n++ {
		for _, none := range [][]api.Deed{nil, {}} {
			w, errs := play.Run(n, none)
			if len(errs) != 0 {
				t.Errorf("Run of nothing: %v", errs)
			}
			check(t, w, made(n))
		}
		w, errs := play.Run(n, l)
		if !slices.Equal(errs, []api.Errno{api.OK, api.ErrArg, api.OK, api.OK, api.OK, api.ErrArg}) || w.Len() != n {
			t.Errorf("Run: %v", errs)
		}
	}
}

// P24.2, P24.3, R1: of a nil World, and of one that New did not make, which has no replicas.
func TestNil(t *testing.T) {
	var zero play.World
	for _, w := range []*play.World{nil, &zero} {
		if w.Len() != 0 || len(w.Pool()) != 0 {
			t.Errorf("%d replicas, and a pool of %v", w.Len(), w.Pool())
		}
		for _, who := range []int{math.MinInt, -1, 0, 1, 2, 8, 9, math.MaxInt} {
			checkNobody(t, w, who)
		}
	}
}

// P24.4: replicas that have the same moves have the same tree, in whatever order these came, and one file, if they settled
// none, or the same.
func TestSame(t *testing.T) {
	next := numbers()
	for range 60 {
		w := play.New(3)
		for range 12 {
			d := some(next, 2, len(w.Pool()))
			if d.Kind != 3 {
				w.Step(d)
			}
		}
		count := len(w.Pool())
		for who := 1; who <= 3; who++ {
			order := make([]int, count)
			for i := range order {
				k := int(next() % uint64(i+1))
				order[i], order[k] = order[k], i
			}
			for _, number := range order {
				fill(t, w, deliver(who, number))
				if next()%3 == 0 {
					fill(t, w, reload(who), deliver(who, number))
				}
			}
		}
		sameFiles := func() {
			t.Helper()
			a, _ := w.File(1)
			b, _ := w.File(2)
			c, _ := w.File(3)
			if a != b || a != c || !tree.Same(w.Tree(1), w.Tree(2)) || !tree.Same(w.Tree(1), w.Tree(3)) {
				t.Fatalf("%q, %q and %q", a, b, c)
			}
		}
		sameFiles()
		if count == 0 {
			continue
		}
		// One that settled some has the same tree, and the other ones are the same behind it.
		was, to := w.Tree(1), w.Pool()[next()%uint64(count)].Time
		fill(t, w, prune(1, to.Counter, to.Replica))
		if !tree.Same(w.Tree(1), was) {
			t.Fatalf("settled to %v %v is %v", to, was, w.Tree(1))
		}
		fill(t, w, prune(2, to.Counter, to.Replica), prune(3, to.Counter, to.Replica))
		sameFiles()
	}
}

// P24.4, P1: a replica that is saved and loaded goes on as if it had not been.
func TestReload(t *testing.T) {
	next := numbers()
	for range 60 {
		plain, loaded := play.New(3), play.New(3)
		for range 60 {
			d := some(next, 3, len(plain.Pool()))
			if a, b := plain.Step(d), loaded.Step(d); a != b {
				t.Fatalf("Step of %+v: %d, and loaded %d", d, a, b)
			}
			fill(t, loaded, reload(int(next()%3)+1))
			if !moves.Same(plain.Pool(), loaded.Pool()) {
				t.Fatalf("Pool: %v, and loaded %v", plain.Pool(), loaded.Pool())
			}
			for who := 1; who <= 3; who++ {
				a, _ := plain.Replica(who)
				b, _ := loaded.Replica(who)
				if !same(a, b) || !tree.Same(plain.Tree(who), loaded.Tree(who)) {
					t.Fatalf("%d is %+v, and loaded %+v", who, a, b)
				}
			}
		}
	}
}

// P24.2: what is loaded is what the file tells, to the bit: all that is no number is one there.
func TestReloadBits(t *testing.T) {
	const other = 0x7ff8000000000123
	w := play.New(1)
	fill(t, w, named(1, 1, 0, "", math.Float64frombits(other)), prune(1, 1, 1), named(1, 2, 0, "", math.Float64frombits(other)))
	s, _ := w.File(1)
	want, e := store.Load(s)
	if e != api.OK {
		t.Fatalf("Load: %d", e)
	}
	fill(t, w, reload(1))
	got, _ := w.Replica(1)
	a, b := []float64{got.Base[0].Rank, got.Log[0].Rank}, []float64{want.Base[0].Rank, want.Log[0].Rank}
	for i := range a {
		if math.Float64bits(a[i]) != math.Float64bits(b[i]) || math.Float64bits(a[i]) == other {
			t.Errorf("rank %d has bits %x, and in the file %x", i, math.Float64bits(a[i]), math.Float64bits(b[i]))
		}
	}
}

// spoil changes all that w tells, and what stands behind that.
func spoil(w *play.World) {
	for who := 1; who <= w.Len(); who++ {
		r, _ := w.Replica(who)
		for i := range r.Base {
			r.Base[i] = api.Row{Child: 99}
		}
		for i := range r.Log {
			r.Log[i] = api.Move{Child: 98}
		}
		for i := range r.Marks {
			r.Marks[i] = api.Mark{Replica: 97}
		}
		_, _, _ = append(r.Base, api.Row{}), append(r.Log, api.Move{}), append(r.Marks, api.Mark{})
		rows := w.Tree(who)
		for i := range rows {
			rows[i] = api.Row{Child: 96}
		}
		_ = append(rows, api.Row{})
	}
	pool := w.Pool()
	for i := range pool {
		pool[i] = api.Move{Child: 95}
	}
	_ = append(pool, api.Move{})
}

// R5: nothing that a World told is changed, or changes it, and what Run was handed stays as it was.
func TestApart(t *testing.T) {
	l := []api.Deed{local(1, 1, 0), local(1, 2, 1), deliver(2, 1), prune(1, 1, 1), prune(1, 2, 1), reload(1), prune(2, 2, 1), local(1, 3, 3), prune(1, 3, 1), local(1, 1, 2), local(2, 4, 0), deliver(1, 4), reload(2)}
	was := slices.Clone(l)
	w, _ := play.Run(2, l)
	if !slices.Equal(l, was) {
		t.Errorf("Run changed %+v to %+v", was, l)
	}
	clear(l)
	want := made(2)
	for _, d := range was {
		want.step(d)
	}
	check(t, w, want)
	w, want = play.New(2), made(2)
	for _, d := range was {
		do(t, w, want, d)
		check(t, w, want)
		spoil(w)
		check(t, w, want)
		pool, rows := w.Pool(), w.Tree(1)
		r, _ := w.Replica(1)
		kept := fmt.Sprint(pool, rows, r)
		for _, more := range []api.Deed{local(1, 1, 0), local(1, 5, 1), deliver(1, 0), reload(1), prune(1, 1, 1)} {
			do(t, w, want, more)
			if now := fmt.Sprint(pool, rows, r); now != kept {
				t.Fatalf("Step of %+v changes %s to %s", more, kept, now)
			}
		}
	}
}

// R5, R6: no two Worlds hang on one another, nor does a copy of one on what is done in the other.
func TestCopy(t *testing.T) {
	for _, count := range []int{0, 1, 2, 5, 255, 256, 257} {
		x, y, other := made(2), made(2), made(2)
		w, apart := play.New(2), play.New(2)
		for i := range count {
			d := local(1, i%5+1, (i+1)%5)
			do(t, w, x, d)
			y.step(d)
		}
		v := *w
		for i, d := range []api.Deed{local(1, 1, 0), local(2, 2, 1), deliver(2, 0), local(2, 3, 0), prune(1, 1, 1), reload(1)} {
			do(t, w, x, d)
			d.Name = fmt.Sprint(i)
			do(t, &v, y, d)
			do(t, apart, other, d)
		}
		check(t, w, x)
		check(t, &v, y)
		check(t, apart, other)
	}
}

// R6: what is told hangs on nothing but what was done, however often it is asked.
func TestAgain(t *testing.T) {
	next := numbers()
	var l []api.Deed
	for i := range 80 {
		l = append(l, some(next, 4, i/3))
	}
	all := func() string {
		w := play.New(4)
		s := ""
		for _, d := range l {
			s += fmt.Sprint(w.Step(d))
			for who := 1; who <= 4; who++ {
				file, _ := w.File(who)
				w.File(who)
				r, _ := w.Replica(who)
				s += fmt.Sprint(w.Tree(who), w.Pool(), r, file)
			}
		}
		return s
	}
	begin := all()
	for range 3 {
		if all() != begin {
			t.Error("another answer")
		}
	}
}
