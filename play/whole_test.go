package play_test

import (
	"cmp"
	"fmt"
	"math"
	"slices"
	"strings"
	"testing"

	"bonsai/api"
	"bonsai/bits"
	"bonsai/chunk"
	"bonsai/floor"
	"bonsai/migrate"
	"bonsai/moves"
	"bonsai/play"
	"bonsai/rank"
	"bonsai/rows"
	"bonsai/snap"
	"bonsai/store"
	"bonsai/tree"
)

const top = 1<<62 - 1

// before tells by the document's words whether a is ahead of b.
func before(a api.Time, b api.Time) bool {
	return a.Counter < b.Counter || a.Counter == b.Counter && a.Replica < b.Replica
}

// grown tells by the document's words what moves make by their times, in whatever order they are given, however often, of
// a tree of which nodes tells what is settled.
func grown(base []api.Row, l []api.Move) []api.Row {
	at := map[int]api.Row{}
	for _, r := range base {
		at[r.Child] = r
	}
	l = slices.Clone(l)
	slices.SortStableFunc(l, func(m api.Move, n api.Move) int {
		return cmp.Or(cmp.Compare(m.Time.Counter, n.Time.Counter), cmp.Compare(m.Time.Replica, n.Time.Replica))
	})
	for _, m := range l {
		barred := m.Child == 0
		for node, has := m.Parent, true; has && !barred; {
			barred = node == m.Child
			var r api.Row
			r, has = at[node]
			node = r.Parent
		}
		if !barred {
			at[m.Child] = api.Row{Child: m.Child, Parent: m.Parent, Name: m.Name, Rank: m.Rank}
		}
	}
	var all []api.Row
	for _, r := range at {
		all = append(all, r)
	}
	slices.SortFunc(all, func(r api.Row, s api.Row) int { return cmp.Compare(r.Child, s.Child) })
	return all
}

// text and number make what stands in rows and moves, by chance.
func text(next func() uint64) string {
	all := []string{"", "a", "\x00", "\xc3\xa4", "\xf4\x8f\xbf\xbf", strings.Repeat("x", 64), strings.Repeat("\xe2\x82\xac", 21), fmt.Sprint(next() % 9)}
	return all[next()%uint64(len(all))]
}

func number(next func() uint64) float64 {
	all := []float64{0, minus(), 1, -1, none(), math.Inf(1), math.Inf(-1), 0x1p-1074, math.MaxFloat64, math.Float64frombits(next())}
	return all[next()%uint64(len(all))]
}

// anyNode tells a node by chance: one of few, or one of all.
func anyNode(next func() uint64) int {
	if next()%5 > 0 {
		return int(next() % 7)
	}
	return int(next() % (node + 1))
}

// replica makes one by chance that may be, not by way of any call: rows that hang on Root or on nothing, a Floor, moves
// behind it, and marks, some of which know more.
func replica(next func() uint64) api.Replica {
	var r api.Replica
	var made []api.Move
	for i := range next() % 7 {
		made = append(made, api.Move{Time: at(int(i)+1, 1), Child: max(anyNode(next), 1), Parent: anyNode(next), Name: text(next), Rank: number(next)})
	}
	r.Base = grown(nil, made)
	most := map[int]int{}
	counter := 1
	if next()%3 > 0 {
		counter = int(next()>>(4+next()%58)) + 1
		r.Floor = at(counter, int(next()%255)+1)
		most[r.Floor.Replica] = counter
	}
	for range next() % 7 {
		counter += int(next()>>(6+next()%56)) % 1000
		if next()%9 == 0 {
			counter += int(next()>>8) % (1 << 54)
		}
		m := api.Move{Time: at(counter, int(next()%255)+1), Child: max(anyNode(next), 1), Parent: anyNode(next), Name: text(next), Rank: number(next)}
		if before(r.Floor, m.Time) && (len(r.Log) == 0 || before(r.Log[len(r.Log)-1].Time, m.Time)) {
			r.Log = append(r.Log, m)
			most[m.Time.Replica] = counter
		}
	}
	for replica := 1; replica <= 255; replica++ {
		if most[replica] > 0 && next()%3 == 0 || next()%99 == 0 {
			most[replica] += int(next()>>(4+next()%56)) + 1
		}
		if most[replica] > 0 {
			r.Marks = append(r.Marks, api.Mark{Replica: replica, Counter: min(most[replica], top)})
		}
	}
	return r
}

// full are replicas that have as much as there may be.
func full() []api.Replica {
	var base []api.Row
	var log []api.Move
	var seen []api.Mark
	for i := range 2000 {
		base = append(base, api.Row{Child: node - 2000 + i + 1, Parent: node - 2000 + i, Name: fmt.Sprintf("%064d", i), Rank: 1 / float64(i+3)})
		log = append(log, api.Move{Time: at(top-2000+i/255+1, i%255+1), Child: node - i, Parent: i, Name: fmt.Sprintf("%064d", 2000-i), Rank: -float64(i)})
	}
	for i := range 255 {
		seen = append(seen, api.Mark{Replica: i + 1, Counter: top})
	}
	slices.SortFunc(log, func(m api.Move, n api.Move) int {
		return cmp.Or(cmp.Compare(m.Time.Counter, n.Time.Counter), cmp.Compare(m.Time.Replica, n.Time.Replica))
	})
	return []api.Replica{
		{Base: base, Marks: seen},
		{Log: log, Marks: seen},
		{Base: base, Floor: at(1, 1), Log: log, Marks: seen},
		{Base: base, Floor: at(top, 255), Marks: seen},
	}
}

// P1: whatever a replica is, it is saved; loaded it is as it was, and goes on so.
func TestFiles(t *testing.T) {
	next := numbers()
	all := full()
	for range 1500 {
		all = append(all, replica(next))
	}
	for _, r := range all {
		if !floor.May(r) {
			t.Fatalf("the test makes no replica: %s", show(r))
		}
		s, e := store.Save(r)
		loaded, err := store.Load(s)
		if e != api.OK || err != api.OK || !same(loaded, r) || !tree.Same(floor.Tree(loaded), floor.Tree(r)) {
			t.Fatalf("%s loaded is %s: %d, %d", show(r), show(loaded), e, err)
		}
		if len(r.Base)+len(r.Log) > 100 {
			continue
		}
		for range 5 {
			m := api.Move{Time: at(int(next()>>(3+next()%60)), int(next()%256)), Child: anyNode(next), Parent: anyNode(next), Name: text(next), Rank: number(next)}
			if next()%2 == 0 && len(r.Marks) > 0 {
				v := r.Marks[next()%uint64(len(r.Marks))]
				m.Time = at(min(v.Counter+int(next()%3), top), v.Replica)
			}
			a, isA, eA := floor.Add(r, m)
			b, isB, eB := floor.Add(loaded, m)
			if isA != isB || eA != eB || !same(a, b) {
				t.Fatalf("%+v behind %+v: %+v, %d, and loaded %+v, %d", m, r, a, eA, b, eB)
			}
			a, eA = floor.Prune(a, m.Time)
			b, eB = floor.Prune(b, m.Time)
			if eA != eB || !same(a, b) {
				t.Fatalf("settled to %+v: %+v, %d, and loaded %+v, %d", m.Time, a, eA, b, eB)
			}
			s, _ := store.Save(a)
			if r, loaded = a, b; len(s) < 68 {
				t.Fatalf("%+v has no file", a)
			}
		}
	}
}

// varied tells s with something at a place by chance otherwise: bytes more, less, or other ones.
func varied(next func() uint64, s string) string {
	const some = "\x00\x01\x02\x03\x04\x7f\x80\x81\xbf\xc3\xf8\xff"
	i := int(next() % uint64(len(s)+1))
	rest := s[min(i+int(next()%3), len(s)):]
	for range next() % 3 {
		k := next() % uint64(len(some))
		rest = some[k:k+1] + rest
	}
	return s[:i] + rest
}

// P2: whatever bytes are loaded, there comes an error and nothing else, or a replica that is well formed, whose file is
// these bytes; no two replicas have one file.
func TestBytes(t *testing.T) {
	next := numbers()
	well := map[string]api.Replica{}
	told := map[api.Errno]int{}
	ask := func(s string) {
		r, e := store.Load(s)
		told[e]++
		file, _ := store.Save(r)
		if e != api.OK && !same(r, api.Replica{}) || e == api.OK && (file != s || !floor.May(r) || !tree.May(floor.Tree(r))) {
			t.Fatalf("%q is %+v, %d, whose file is %q", s, r, e, file)
		}
		if e != api.OK {
			return
		}
		if other, is := well[s]; is && !same(other, r) {
			t.Fatalf("%q is %+v and %+v", s, r, other)
		}
		well[s] = r
		if again, err := migrate.Migrate(s); again != s || err != api.OK {
			t.Fatalf("%q is migrated to %q, %d", s, again, err)
		}
	}
	for range 1500 {
		r := replica(next)
		s, _ := store.Save(r)
		ask(s)
		for range 4 {
			ask(varied(next, s))
		}
		v, l, _ := chunk.Split(s)
		for i := range r.Base {
			// A row that hangs somewhere else in its tree, below itself, too.
			moved, other := slices.Clone(r.Base), slices.Clone(l)
			moved[i].Parent = moved[next()%uint64(len(moved))].Child
			other[1].Body = snap.PutRows(moved)
			s, _ := chunk.Join(v, other)
			ask(s)
		}
		for range 40 {
			other := slices.Clone(l)
			for range next()%2 + 1 {
				k := next() % uint64(len(other))
				other[k].Body = varied(next, other[k].Body)
			}
			s, _ := chunk.Join(v, other)
			ask(s)
		}
	}
	for _, e := range []api.Errno{api.OK, api.ErrCut, api.ErrLong, api.ErrText, api.ErrForm, api.ErrSum, api.ErrMagic, api.ErrVersion, api.ErrBig, api.ErrCycle, api.ErrOrder} {
		if told[e] < 10 {
			t.Errorf("%d told %d times", e, told[e])
		}
	}
	if told[api.OK] < 2000 {
		t.Errorf("%v", told)
	}
}

// P3: a replica's tree is what all its moves make by their times, in whatever order they came, settled or not; it is
// always a tree.
func TestMoves(t *testing.T) {
	next := numbers()
	settled, late := 0, 0
	for range 150 {
		w := play.New(4)
		has := make([]map[api.Time]api.Move, 5)
		for who := range has {
			has[who] = map[api.Time]api.Move{}
		}
		for range 70 {
			d := some(next, 4, len(w.Pool()))
			if e := w.Step(d); e != api.OK {
				continue
			}
			pool := w.Pool()
			switch d.Kind {
			case api.Local:
				m := pool[len(pool)-1]
				has[d.Who][m.Time] = m
			case api.Deliver:
				m := pool[d.At]
				r, _ := w.Replica(d.Who)
				if r.Log[len(r.Log)-1].Time != m.Time {
					late++
				}
				has[d.Who][m.Time] = m
			case api.Prune:
				settled++
			}
			for who := 1; who <= 4; who++ {
				var l []api.Move
				for _, m := range has[who] {
					l = append(l, m)
				}
				r, _ := w.Replica(who)
				got := w.Tree(who)
				if !tree.Same(got, grown(nil, l)) || !tree.Same(got, grown(r.Base, r.Log)) || !tree.May(got) {
					t.Fatalf("%d has %+v, of which %v are", who, l, got)
				}
			}
		}
	}
	if settled < 100 || late < 100 {
		t.Errorf("%d times something settled, %d moves late", settled, late)
	}
}

// P3: replicas of any kind to which the same moves come in unlike orders.
func TestOrders(t *testing.T) {
	next := numbers()
	for range 300 {
		r := replica(next)
		var l []api.Move
		for range 8 {
			m := api.Move{Time: at(r.Floor.Counter+int(next()%9)+1, int(next()%255)+1), Child: max(anyNode(next), 1), Parent: anyNode(next), Name: text(next), Rank: number(next)}
			if m.Time.Counter <= top {
				l, _, _ = moves.Insert(l, m)
			}
		}
		l = slices.DeleteFunc(l, func(m api.Move) bool {
			return slices.ContainsFunc(r.Log, func(n api.Move) bool { return n.Time == m.Time })
		})
		want := grown(r.Base, append(slices.Clone(r.Log), l...))
		var first string
		for range 5 {
			for i := range l {
				k := int(next() % uint64(i+1))
				l[i], l[k] = l[k], l[i]
			}
			merged, e := floor.Merge(r, append(slices.Clone(l), l...))
			s, _ := store.Save(merged)
			if first == "" {
				first = s
			}
			if e != api.OK || !tree.Same(floor.Tree(merged), want) || s != first || !tree.May(want) {
				t.Fatalf("%+v with %+v: %+v, %d", r, l, merged, e)
			}
			for _, m := range merged.Log {
				pruned, e := floor.Prune(merged, m.Time)
				if e != api.OK || !tree.Same(floor.Tree(pruned), want) {
					t.Fatalf("%+v settled to %v: %+v, %d", merged, m.Time, pruned, e)
				}
			}
		}
	}
}

// P4: files of the first version are read as just their moves; those of another version are none.
func TestVersions(t *testing.T) {
	next := numbers()
	told := map[api.Errno]int{}
	ask := func(s string) {
		r, e := migrate.Read(s)
		told[e]++
		if e != api.OK {
			if !same(r, api.Replica{}) {
				t.Fatalf("%q is %+v, %d", s, r, e)
			}
			return
		}
		l, err := rows.Decode(s)
		back, eBack := rows.Encode(r.Log)
		if err != api.OK || !moves.Same(r.Log, l) || back != s || eBack != api.OK || len(r.Base) != 0 || r.Floor != (api.Time{}) {
			t.Fatalf("%q is %+v, %d, whose file is %q, %d", s, r, err, back, eBack)
		}
		if !floor.May(r) || !tree.Same(floor.Tree(r), grown(nil, l)) {
			t.Fatalf("%q is %+v", s, r)
		}
		for _, v := range r.Marks {
			if !slices.ContainsFunc(l, func(m api.Move) bool { return m.Time == at(v.Counter, v.Replica) }) {
				t.Fatalf("%q knows %+v", s, v)
			}
		}
	}
	for range 500 {
		l := replica(next).Log
		s, e := rows.Encode(l)
		if r, err := migrate.Read(s); e != api.OK || err != api.OK || !moves.Same(r.Log, l) {
			t.Fatalf("%+v: %d, %d", l, e, err)
		}
		file, _ := migrate.Migrate(s)
		if loaded, e := store.Load(file); e != api.OK || !moves.Same(loaded.Log, l) || len(loaded.Base) != 0 {
			t.Fatalf("%+v is migrated to %+v, %d", l, loaded, e)
		}
		if got, e := store.Load(s); e != api.ErrVersion || !same(got, api.Replica{}) {
			t.Fatalf("store loads %q: %d", s, e)
		}
		for range 40 {
			if s := varied(next, s); len(s) < 5 || s[4] != 2 {
				ask(s)
			}
		}
		other := "BNSI" + string([]byte{byte(next()%253) + 3}) + s[5:]
		for _, s := range []string{other, "BNSI\x00" + file[5:], other[:5] + file[5:]} {
			if r, e := migrate.Read(s); e != api.ErrVersion || !same(r, api.Replica{}) {
				t.Fatalf("%q is %+v, %d", s, r, e)
			}
		}
	}
	for _, e := range []api.Errno{api.OK, api.ErrCut, api.ErrLong, api.ErrText, api.ErrForm, api.ErrMagic, api.ErrVersion, api.ErrBig, api.ErrOrder} {
		if told[e] < 5 {
			t.Errorf("%d told %d times", e, told[e])
		}
	}
}

// P5: ranks are kept by their bits, and kids stand by them.
func TestRanks(t *testing.T) {
	next := numbers()
	sorted := []float64{math.Inf(-1), -math.MaxFloat64, -1, -0x1p-1022, -0x1p-1074, minus(), 0, 0x1p-1074, 0x1p-1022, 0x1.0000000000001p-1022, 1, 0x1.0000000000001p0, math.MaxFloat64, math.Inf(1), none()}
	for range 60 {
		w := play.New(2)
		order := make([]int, len(sorted))
		for i := range order {
			k := int(next() % uint64(i+1))
			order[i], order[k] = order[k], i
		}
		for _, k := range order {
			f := sorted[k]
			if f != f {
				// All that is no number is one.
				f = math.Float64frombits(0x7ff0000000000001 | next()<<63 | next()>>12)
			}
			// Two have each rank, of which that of the smaller number stands ahead.
			fill(t, w, named(1, 2*k+2, 0, "", f), named(1, 2*k+1, 0, "", f))
		}
		for i := range w.Pool() {
			fill(t, w, deliver(2, len(w.Pool())-1-i))
		}
		fill(t, w, prune(1, len(order), 1), reload(1), reload(2))
		back, e := w.File(2)
		if back, e = migrate.Back(back); e != api.OK {
			t.Fatalf("Back: %d", e)
		}
		elder, e := migrate.Read(back)
		if e != api.OK {
			t.Fatalf("Read: %d", e)
		}
		for i, rows := range [][]api.Row{w.Tree(1), w.Tree(2), floor.Tree(elder)} {
			kids := tree.Kids(rows, api.Root)
			if len(kids) != 2*len(sorted) {
				t.Fatalf("case %d: there are %d kids", i, len(kids))
			}
			for k, r := range kids {
				if r.Child != k+1 || !bits.Same(r.Rank, sorted[k/2]) {
					t.Fatalf("case %d: kid %d is %+v", i, k, r)
				}
			}
		}
	}
	// Between two of them another one stands, for ever, if there is room.
	mid, is := rank.Between(minus(), 1)
	low, none := rank.Between(minus(), 0)
	w := play.New(1)
	fill(t, w, named(1, 1, 0, "", 1), named(1, 2, 0, "", minus()), named(1, 3, 0, "", mid), prune(1, 3, 1), reload(1))
	kids := tree.Kids(w.Tree(1), api.Root)
	if !is || none || !bits.Same(low, 0) || kids[0].Child != 2 || kids[1].Child != 3 || kids[2].Child != 1 {
		t.Errorf("%v, %v, %v, %v: %v", mid, is, low, none, kids)
	}
}

// parents tells Children and Parents of a tree, one behind the other.
func parents(l []api.Row) string {
	s := ""
	for _, r := range l {
		s += fmt.Sprintf("%d<%d ", r.Child, r.Parent)
	}
	return s
}

// The document's examples of the whole: 1, 2, 3 and 6.
func TestExamplesMoves(t *testing.T) {
	w := play.New(3)
	fill(t, w, local(1, 1, 0), local(1, 2, 0), deliver(2, 0), deliver(2, 1), deliver(3, 1), deliver(3, 0))
	// 1. 1 moves 1 below 2, 2 moves 2 below 1, a little later: everywhere the second one is barred.
	fill(t, w, local(1, 1, 2), local(2, 2, 1), deliver(2, 2), deliver(1, 3))
	// 2. The second one comes first to a third replica: it is undone, and done again, and barred.
	fill(t, w, deliver(3, 3))
	if got := parents(w.Tree(3)); got != "1<0 2<1 " {
		t.Errorf("example 2: first %s", got)
	}
	fill(t, w, deliver(3, 2))
	files := map[string]bool{}
	for who := 1; who <= 3; who++ {
		if got := parents(w.Tree(who)); got != "1<2 2<0 " {
			t.Errorf("examples 1 and 2: %d has %s", who, got)
		}
		// 6. Two replicas took the same moves in unlike orders: one file.
		s, _ := w.File(who)
		files[s] = true
	}
	if len(files) != 1 {
		t.Errorf("example 6: %d files", len(files))
	}
	// 3. A move comes twice: the second time nothing changes.
	was, _ := w.Replica(3)
	for number := range w.Pool() {
		fill(t, w, deliver(3, number))
		if r, _ := w.Replica(3); !same(r, was) {
			t.Errorf("example 3: %+v", r)
		}
	}
}

// The document's examples of the whole: 4, 5 and 9.
func TestExamplesSettled(t *testing.T) {
	w := play.New(2)
	fill(t, w, named(2, 8, 0, "late", 1), named(1, 1, 0, "a", 0), named(1, 2, 0, "b", minus()), named(1, 3, 2, "c", 2), named(1, 2, 1, "b", minus()), named(1, 2, 0, "b", minus()), reload(1))
	// 4. A replica settles all up to a time: its tree is as it was, its file has fewer moves.
	was := w.Tree(1)
	long, _ := w.File(1)
	fill(t, w, prune(1, 4, 1))
	short, _ := w.File(1)
	r, _ := w.Replica(1)
	if !tree.Same(w.Tree(1), was) || len(r.Log) != 1 || short == long {
		t.Errorf("example 4: %+v", r)
	}
	if loaded, e := store.Load(short); e != api.OK || len(loaded.Log) != 1 || !tree.Same(floor.Tree(loaded), was) {
		t.Errorf("example 4: %+v, %d", loaded, e)
	}
	// 5. A move of that time, or ahead, comes then: ErrStale.
	for _, number := range []int{0, 4} {
		if e := w.Step(deliver(1, number)); e != api.ErrStale {
			t.Errorf("example 5: %d", e)
		}
	}
	// 9. A kid's rank is nought with a minus: it stands ahead of one of nought, saved and loaded, too.
	for range 2 {
		kids := tree.Kids(w.Tree(1), api.Root)
		if len(kids) != 2 || kids[0].Child != 2 || !math.Signbit(kids[0].Rank) || kids[1].Child != 1 || math.Signbit(kids[1].Rank) {
			t.Errorf("example 9: %+v", kids)
		}
		fill(t, w, prune(1, 5, 1), reload(1))
	}
}

// The document's examples of the whole: 7, 8 and 10.
func TestExamplesFiles(t *testing.T) {
	w := play.New(1)
	fill(t, w, named(1, 1, 0, "a", 1), local(1, 2, 1), prune(1, 1, 1))
	s, _ := w.File(1)
	version, l, _ := chunk.Split(s)
	// 7. A byte of a chunk's body is spoilt: ErrSum.
	end := len("BNSI\x02")
	for _, c := range l {
		body := end + len("\x01\x00")
		for i := range c.Body {
			spoilt := s[:body+i] + string([]byte{s[body+i] ^ 0x40}) + s[body+i+1:]
			if r, e := store.Load(spoilt); e != api.ErrSum || !same(r, api.Replica{}) {
				t.Errorf("example 7: %q, %+v, %d", spoilt, r, e)
			}
		}
		end = body + len(c.Body) + 4
	}
	// 8. A file of which a number has a byte too many: ErrLong; nobody else's file is it.
	for i := range l {
		long := slices.Clone(l)
		long[i].Body = string([]byte{l[i].Body[0] | 0x80, 0}) + l[i].Body[1:]
		s, _ := chunk.Join(version, long)
		if r, e := store.Load(s); e != api.ErrLong || !same(r, api.Replica{}) {
			t.Errorf("example 8: %q, %+v, %d", s, r, e)
		}
	}
	// 10. A file of the first version: migrated it is loaded as just its moves.
	elder, _ := rows.Encode(w.Pool())
	file, e := migrate.Migrate(elder)
	r, err := store.Load(file)
	if e != api.OK || err != api.OK || !same(r, api.Replica{Log: w.Pool(), Marks: list(1, 2)}) {
		t.Errorf("example 10: %+v, %d, %d", r, e, err)
	}
}
