package migrate_test

import (
	"encoding/binary"
	"fmt"
	"hash/crc32"
	"math"
	"slices"
	"strings"
	"testing"

	"bonsai/api"
	"bonsai/chunk"
	"bonsai/floor"
	"bonsai/marks"
	"bonsai/migrate"
	"bonsai/moves"
	"bonsai/rows"
	"bonsai/store"
	"bonsai/tree"
)

const (
	top  = 1<<62 - 1
	node = 1<<31 - 1
)

// minus is nought with a minus, none is no number.
func minus() float64 { return math.Copysign(0, -1) }
func none() float64  { return math.NaN() }

// numbers goes without an end by numbers that look like chance, and are the same each time.
func numbers() func() uint64 {
	u := uint64(0x9e3779b97f4a7c15)
	return func() uint64 {
		u = u*6364136223846793005 + 1442695040888963407
		return u ^ u>>29
	}
}

// near tells s with a byte more, less or otherwise at each place, and each begin of it.
func near(s string, some string) []string {
	var all []string
	for i := range len(s) + 1 {
		all = append(all, s[:i])
		for k := range len(some) {
			b := some[k : k+1]
			all = append(all, s[:i]+b+s[i:])
			if i < len(s) {
				all = append(all, s[:i]+b+s[i+1:], s[:i]+s[i+1:])
			}
		}
	}
	return all
}

// at tells a Time.
func at(counter int, replica int) api.Time {
	return api.Time{Counter: counter, Replica: replica}
}

// move makes one of a Counter and a Replica that lays child below parent.
func move(counter int, replica int, child int, parent int) api.Move {
	return api.Move{Time: at(counter, replica), Child: child, Parent: parent}
}

// named makes one with a Name and a Rank.
func named(counter int, replica int, child int, parent int, name string, f float64) api.Move {
	m := move(counter, replica, child, parent)
	m.Name, m.Rank = name, f
	return m
}

// list makes marks of Replicas and Counters, one behind the other.
func list(numbers ...int) []api.Mark {
	var v []api.Mark
	for i := 0; i < len(numbers); i += 2 {
		v = append(v, api.Mark{Replica: numbers[i], Counter: numbers[i+1]})
	}
	return v
}

// many tells count moves, each of a node of its own, with a long Name of its own.
func many(count int) []api.Move {
	var l []api.Move
	for i := range count {
		l = append(l, named(top-count+i, i%255+1, i+1, i, fmt.Sprintf("%064d", i), 1/float64(i+3)))
	}
	return l
}

// some tells count moves by chance that may be, of few nodes and replicas.
func some(next func() uint64, count int) []api.Move {
	names := []string{"", "a", "\xc3\xa4", strings.Repeat("x", 64)}
	ranks := []float64{0, minus(), 1, none(), math.Inf(-1), 0x1p-1074}
	var l []api.Move
	for range count {
		m := named(int(next()%40)+1, int(next()%3)*100+1, int(next()%6)+1, int(next()%7), names[next()%4], ranks[next()%6])
		if next()%4 == 0 {
			m.Child, m.Parent, m.Rank = int(next()%node)+1, int(next()%node), math.Float64frombits(next())
		}
		l, _, _ = moves.Insert(l, m)
	}
	return l
}

// wrong are lists that may not be moves, each for one thing alone.
func wrong() [][]api.Move {
	var all [][]api.Move
	but := func(change func(m *api.Move)) {
		for i := range 3 {
			l := []api.Move{move(1, 1, 1, 0), move(2, 1, 2, 1), move(3, 1, 3, 2)}
			change(&l[i])
			all = append(all, l)
		}
	}
	but(func(m *api.Move) { *m = api.Move{} })
	but(func(m *api.Move) { m.Time.Counter = 0 })
	but(func(m *api.Move) { m.Time.Counter = -1 })
	but(func(m *api.Move) { m.Time.Counter = top + 1 })
	but(func(m *api.Move) { m.Time.Replica = 0 })
	but(func(m *api.Move) { m.Time.Replica = 256 })
	but(func(m *api.Move) { m.Parent = -1 })
	but(func(m *api.Move) { m.Parent = node + 1 })
	but(func(m *api.Move) { m.Child = 0 })
	but(func(m *api.Move) { m.Child = node + 1 })
	but(func(m *api.Move) { m.Name = strings.Repeat("a", 65) })
	but(func(m *api.Move) { m.Name = "\xff" })
	return append(all,
		[]api.Move{move(2, 1, 1, 0), move(1, 1, 1, 0)},
		[]api.Move{move(1, 2, 1, 0), move(1, 1, 1, 0)},
		[]api.Move{move(1, 1, 1, 0), move(1, 1, 1, 0)},
		[]api.Move{move(1, 1, 1, 0), move(1, 1, 2, 1)},
		many(2001),
	)
}

// well are lists of moves that may be.
func well() [][]api.Move {
	next := numbers()
	all := [][]api.Move{
		nil,
		{},
		{move(1, 1, 1, 0)},
		{named(top, 255, node, node, strings.Repeat("\xc3\xa4", 32), none())},
		{move(1, 1, 1, 0), move(1, 2, 1, 1), move(2, 1, 1, 2), named(4, 2, 3, 1, "\xc3\xa4", none()), move(4, 3, 2, 1)},
		{named(7, 9, 1, 0, "", minus()), named(8, 3, 2, 0, "a", 0)},
		many(2000),
	}
	for i := range 300 {
		all = append(all, some(next, i%12))
	}
	return all
}

// settled are replicas that are more than their Logs, each in one way alone.
func settled(t *testing.T) []api.Replica {
	t.Helper()
	l := []api.Move{move(1, 1, 1, 0), move(2, 1, 2, 1), move(3, 2, 1, 2), move(4, 1, 3, 0)}
	r, e := floor.Merge(api.Replica{}, l)
	if e != api.OK {
		t.Fatalf("no replica: %d", e)
	}
	var all []api.Replica
	but := func(change func(r *api.Replica)) {
		other := r
		other.Base, other.Log, other.Marks = slices.Clone(r.Base), slices.Clone(r.Log), slices.Clone(r.Marks)
		change(&other)
		all = append(all, other)
	}
	but(func(r *api.Replica) { *r, _ = floor.Prune(*r, at(1, 1)) })
	but(func(r *api.Replica) { *r, _ = floor.Prune(*r, at(4, 1)) })
	but(func(r *api.Replica) { r.Base = []api.Row{{Child: 9}} })
	but(func(r *api.Replica) { r.Log, r.Floor = r.Log[2:], at(1, 1) })
	but(func(r *api.Replica) { r.Log, r.Floor = r.Log[2:], at(2, 1) })
	but(func(r *api.Replica) { r.Log = r.Log[1:]; r.Log[0].Time.Replica = 2; r.Floor = at(1, 2) })
	but(func(r *api.Replica) { r.Marks = list(1, 5, 2, 3) })
	but(func(r *api.Replica) { r.Marks = list(1, 4, 2, top) })
	but(func(r *api.Replica) { r.Marks = list(1, 4, 2, 3, 3, 1) })
	but(func(r *api.Replica) { r.Log = r.Log[:3] })
	but(func(r *api.Replica) { r.Log = nil })
	but(func(r *api.Replica) { *r = api.Replica{Marks: list(255, 1)} })
	but(func(r *api.Replica) { *r = api.Replica{Floor: at(1, 7), Marks: list(7, 1)} })
	but(func(r *api.Replica) { *r = api.Replica{Base: []api.Row{{Child: 1}}} })
	return all
}

// show tells v so that it can be read, where there is not too much of it.
func show(v any) string {
	return fmt.Sprintf("%.300s", fmt.Sprintf("%+v", v))
}

// same tells by the document's words whether a and b are the same, field by field.
func same(a api.Replica, b api.Replica) bool {
	return tree.Same(a.Base, b.Base) && a.Floor == b.Floor && moves.Same(a.Log, b.Log) && slices.Equal(a.Marks, b.Marks)
}

// of tells by the document's words what Of is to tell of moves that may be.
func of(l []api.Move) api.Replica {
	most := map[int]int{}
	for _, m := range l {
		most[m.Time.Replica] = max(most[m.Time.Replica], m.Time.Counter)
	}
	r := api.Replica{Log: l}
	for replica := 1; replica <= 255; replica++ {
		if most[replica] > 0 {
			r.Marks = append(r.Marks, api.Mark{Replica: replica, Counter: most[replica]})
		}
	}
	return r
}

// read tells by the document's words what Read is to tell.
func read(s string) (api.Replica, api.Errno) {
	switch {
	case len(s) < 4 || s[:4] != "BNSI":
		return api.Replica{}, api.ErrMagic
	case len(s) < 5:
		return api.Replica{}, api.ErrCut
	case s[4] == 1:
		l, e := rows.Decode(s)
		if e != api.OK {
			return api.Replica{}, e
		}
		return of(l), api.OK
	case s[4] == 2:
		return store.Load(s)
	}
	return api.Replica{}, api.ErrVersion
}

// elder and newer tell the files of l, of both versions.
func elder(t *testing.T, l []api.Move) string {
	t.Helper()
	s, e := rows.Encode(l)
	if e != api.OK {
		t.Fatalf("no file of the first version of %s: %d", show(l), e)
	}
	return s
}

func newer(t *testing.T, r api.Replica) string {
	t.Helper()
	s, e := store.Save(r)
	if e != api.OK {
		t.Fatalf("no file of the second version of %s: %d", show(r), e)
	}
	return s
}

// check holds what Read, Migrate and Back tell of s against r, the two files, and their errors.
func check(t *testing.T, s string, r api.Replica, e api.Errno, file string, back string, eBack api.Errno) {
	t.Helper()
	if got, err := migrate.Read(s); !same(got, r) || err != e {
		t.Errorf("Read of %.300q: %s, %d, not %s, %d", s, show(got), err, show(r), e)
	}
	if got, err := migrate.Migrate(s); got != file || err != e {
		t.Errorf("Migrate of %.300q: %.300q, %d, not %.300q, %d", s, got, err, file, e)
	}
	if got, err := migrate.Back(s); got != back || err != eBack {
		t.Errorf("Back of %.300q: %.300q, %d, not %.300q, %d", s, got, err, back, eBack)
	}
}

// checkWrong holds what is told of s against e, beside which there is nothing else.
func checkWrong(t *testing.T, s string, e api.Errno) {
	t.Helper()
	check(t, s, api.Replica{}, e, "", "", e)
}

// checkAll holds what is told of s against what the document's words ask for, and tells the error of Read.
func checkAll(t *testing.T, s string) api.Errno {
	t.Helper()
	r, e := read(s)
	if e != api.OK {
		checkWrong(t, s, e)
		return e
	}
	if !same(r, of(r.Log)) {
		check(t, s, r, api.OK, newer(t, r), "", api.ErrForm)
		return api.OK
	}
	check(t, s, r, api.OK, newer(t, r), elder(t, r.Log), api.OK)
	return api.OK
}

// one tells by the document's words a chunk as bytes.
func one(kind int, body string) string {
	b := binary.AppendUvarint([]byte{byte(kind)}, uint64(len(body)))
	b = append(b, body...)
	return string(binary.LittleEndian.AppendUint32(b, crc32.ChecksumIEEE(b)))
}

// P23.1: Of, by hand.
func TestOfKnown(t *testing.T) {
	x := named(300, 1, 3, 1, "\xc3\xa4", none())
	for _, c := range []struct {
		l []api.Move
		v []api.Mark
	}{
		{nil, nil},
		{[]api.Move{}, nil},
		{[]api.Move{move(1, 1, 1, 0)}, list(1, 1)},
		{[]api.Move{move(1, 2, 1, 0), move(2, 1, 1, 1), move(2, 2, 2, 1), x}, list(1, 300, 2, 2)},
		{[]api.Move{move(5, 9, 1, 0), move(6, 3, 1, 0), move(7, 255, 1, 0), move(top, 3, 1, 0)}, list(3, top, 9, 5, 255, 7)},
	} {
		want := api.Replica{Log: c.l, Marks: c.v}
		if got, e := migrate.Of(c.l); !same(got, want) || e != api.OK {
			t.Errorf("Of of %v: %+v, %d", c.l, got, e)
		}
	}
}

// P23.1: Of what may be is a replica that may be, of which nothing is settled.
func TestOf(t *testing.T) {
	for _, l := range well() {
		got, e := migrate.Of(l)
		if !same(got, of(l)) || e != api.OK || !floor.May(got) || len(got.Base) != 0 || got.Floor != (api.Time{}) {
			t.Errorf("Of of %s: %s, %d", show(l), show(got), e)
		}
		if !slices.Equal(got.Marks, marks.Of(l)) {
			t.Errorf("Of of %s: the marks are %v", show(l), got.Marks)
		}
	}
}

// P23.1, R3: Of what may not be.
func TestOfWrong(t *testing.T) {
	for _, l := range wrong() {
		if got, e := migrate.Of(l); !same(got, api.Replica{}) || e != api.ErrArg {
			t.Errorf("Of of %s: %s, %d", show(l), show(got), e)
		}
	}
}

// P23.2, P23.3, P23.4: files, by hand: the chapter's example, and one of a move.
func TestKnown(t *testing.T) {
	nothing := "BNSI\x02" + one(1, "\x00\x00") + one(2, "\x00\x00\x00\x01\x00\x00") + one(3, "\x00\x00") + one(4, "\x00") + one(5, "\x00") + one(6, "\x00") + one(7, "\x00") + one(8, "\x00")
	if len(nothing) != 68 {
		t.Errorf("%d bytes", len(nothing))
	}
	for _, s := range []string{"BNSI\x01\x00", nothing} {
		check(t, s, api.Replica{}, api.OK, nothing, "BNSI\x01\x00", api.OK)
	}
	first := "BNSI\x01\x01\x05\x02\x00\x03\x01a\x00\x00\x00\x00\x00\x00\xf0\x3f"
	second := "BNSI\x02" + one(1, "\x00\x00") + one(2, "\x00\x00\x00\x01\x00\x00") + one(3, "\x01\x01\x04\x0a") + one(4, "\x01") + one(5, "\x01\x0a\x02\x01") + one(6, "\x01\x00\x06") + one(7, "\x01\x01a\x00\x01") + one(8, "\x02\x00\x01\xbf\xe0\x03")
	r := api.Replica{Log: []api.Move{named(5, 2, 3, 0, "a", 1)}, Marks: list(2, 5)}
	for _, s := range []string{first, second} {
		check(t, s, r, api.OK, second, first, api.OK)
	}
	// What is known beyond the moves is lost on the way back, so that there is none.
	more := "BNSI\x02" + one(1, "\x00\x00") + one(2, "\x00\x00\x00\x01\x00\x00") + one(3, "\x01\x01\x04\x0c") + second[len("BNSI\x02")+8+12+10:]
	r.Marks = list(2, 6)
	check(t, more, r, api.OK, more, "", api.ErrForm)
}

// P23.2, P23.3, P23.4, P23.5: files of moves alone, of both versions: there and back they are the same.
func TestBoth(t *testing.T) {
	for _, l := range well() {
		first, second := elder(t, l), newer(t, of(l))
		for _, s := range []string{first, second} {
			check(t, s, of(l), api.OK, second, first, api.OK)
		}
	}
}

// P23.3, P23.4, P23.5: replicas that are more than their Logs are migrated to themselves, and there is no way back.
func TestSettled(t *testing.T) {
	for _, r := range settled(t) {
		if !floor.May(r) {
			t.Errorf("no replica: %+v", r)
		}
		if same(r, of(r.Log)) {
			t.Errorf("no more than its Log: %+v", r)
		}
		s := newer(t, r)
		check(t, s, r, api.OK, s, "", api.ErrForm)
	}
}

// P23.2: the version goes ahead of all that stands behind it, and each but two is none.
func TestVersion(t *testing.T) {
	first, second := elder(t, many(3)), newer(t, of(many(3)))
	for _, rest := range []string{"", "\x00", "\x80\x00", "rest", first[5:], second[5:]} {
		for v := range 256 {
			s := "BNSI" + string([]byte{byte(v)}) + rest
			if v == 1 || v == 2 {
				checkAll(t, s)
				continue
			}
			checkWrong(t, s, api.ErrVersion)
		}
		for _, s := range []string{"", "B", "BN", "BNS", "bnsi\x01", "BNSX\x02", "BNSX\x03", "\x01BNSI", " BNSI\x02"} {
			checkWrong(t, s+rest, api.ErrMagic)
		}
	}
	checkWrong(t, "BNSI", api.ErrCut)
	checkWrong(t, "BNSI\x01", api.ErrCut)
	checkWrong(t, "BNSI\x02", api.ErrForm)
	// What stands behind is of the version that the file tells.
	checkWrong(t, "BNSI\x01"+second[5:], api.ErrBig)
	checkWrong(t, "BNSI\x02"+first[5:], api.ErrBig)
}

// P23.2, P23.3, P23.4, R2: the errors of rows and of store are told, each by a file of it.
func TestErrors(t *testing.T) {
	const nought = "\x00\x00\x00\x00\x00\x00\x00\x00"
	for s, e := range map[string]api.Errno{
		"\x01":     api.ErrCut,
		"\x80\x00": api.ErrLong,
		"\xd1\x0f": api.ErrBig,
		"\x01\x01\x01\x00\x01\x41" + strings.Repeat("a", 65) + nought:         api.ErrBig,
		"\x01\x01\x01\x00\x01\x01\xff" + nought:                               api.ErrText,
		"\x01\x01\x01\x00\x00\x00" + nought:                                   api.ErrForm,
		"\x01\x01\x01\x00\x01\x00\x01\x00\x00\x00\x00\x00\xf8\x7f":            api.ErrForm,
		"\x01\x01\x01\x00\x01\x00" + nought + "\x00":                          api.ErrForm,
		"\x02\x01\x01\x00\x01\x00" + nought + "\x01\x01\x00\x01\x00" + nought: api.ErrOrder,
	} {
		checkWrong(t, "BNSI\x01"+s, e)
	}
	whole := []string{"\x00\x00", "\x00\x00\x00\x01\x00\x00", "\x00\x00", "\x00", "\x00", "\x00", "\x00", "\x00"}
	for _, c := range []struct {
		kind int
		body string
		e    api.Errno
	}{
		{1, "", api.ErrCut}, {1, "\x01\x01", api.ErrForm}, {2, "\xd1\x0f", api.ErrBig}, {2, "\x80\x00", api.ErrLong}, {2, "\x01\x01\x02\x01\x02\x04\x01\x00\x00\x01\x01\x01", api.ErrCycle},
		{2, "\x02\x02\x04\x00\x02\x00\x00\x04\x01\x00\x00\x02\x01\x02", api.ErrOrder}, {2, "\x01\x01\x02\x01\x00\x05\x01\x01\xff\x00\x01\x01\x01", api.ErrText}, {3, "\x01", api.ErrCut}, {4, "\x01", api.ErrCut}, {8, "\x00\x00", api.ErrForm},
	} {
		s := "BNSI\x02"
		for i, body := range whole {
			if i+1 == c.kind {
				body = c.body
			}
			s += one(i+1, body)
		}
		checkWrong(t, s, c.e)
	}
	s := newer(t, of(many(2)))
	checkWrong(t, s[:len(s)-1], api.ErrCut)
	checkWrong(t, s[:len(s)-1]+string([]byte{s[len(s)-1] ^ 1}), api.ErrSum)
	checkWrong(t, s+one(8, ""), api.ErrOrder)
	checkWrong(t, s+one(9, ""), api.ErrForm)
	checkWrong(t, s+s[5:], api.ErrOrder)
}

// P23.2 to P23.5: files that are nearly well, of both versions, and of the second one also with the sums of what they are:
// each tells an error and nothing else, or a replica, whose file it is.
func TestNear(t *testing.T) {
	next := numbers()
	const bytes = "\x00\x01\x02\x03\x40\x7fa\x80\xc3\xf8\xff"
	told := map[api.Errno]int{}
	ask := func(s string) {
		e := checkAll(t, s)
		told[e]++
		if e != api.OK {
			return
		}
		file, _ := migrate.Migrate(s)
		if s[4] == 1 {
			file, _ = migrate.Back(s)
		}
		if file != s {
			t.Errorf("%q is another one's file, too: %q", s, file)
		}
	}
	lists := [][]api.Move{nil, {named(5, 2, 3, 0, "a", 1)}, {move(1, 1, 1, 0), named(2, 1, 2, 1, "\xc3\xa4", minus()), named(2, 3, 1, 2, "", none())}}
	for range 4 {
		lists = append(lists, some(next, 3))
	}
	for _, l := range lists {
		first, second := elder(t, l), newer(t, of(l))
		for _, s := range append(near(first, bytes), near(second, "\x00\x01\x7f\xff")...) {
			ask(s)
		}
		_, chunks, _ := chunk.Split(second)
		for i := range chunks {
			for _, body := range near(chunks[i].Body, bytes) {
				other := slices.Clone(chunks)
				other[i].Body = body
				s, _ := chunk.Join(2, other)
				ask(s)
			}
		}
	}
	for _, e := range []api.Errno{api.OK, api.ErrCut, api.ErrLong, api.ErrText, api.ErrForm, api.ErrSum, api.ErrMagic, api.ErrVersion, api.ErrBig, api.ErrOrder} {
		if told[e] < 3 {
			t.Errorf("%d told %d times", e, told[e])
		}
	}
}

// P23.5: what is migrated goes on as what was merged of the same moves.
func TestGoesOn(t *testing.T) {
	next := numbers()
	for range 50 {
		l := some(next, 9)
		merged, e := floor.Merge(api.Replica{}, l)
		file, err := migrate.Migrate(elder(t, l))
		if e != api.OK || err != api.OK || newer(t, merged) != file {
			t.Fatalf("%v: %d, %d, %q", l, e, err, file)
		}
		loaded, _ := store.Load(file)
		for _, m := range some(next, 9) {
			a, isA, eA := floor.Add(merged, m)
			b, isB, eB := floor.Add(loaded, m)
			if isA != isB || eA != eB || !same(a, b) {
				t.Fatalf("%v behind %v: %v and %v", m, l, a, b)
			}
			merged, loaded = a, b
		}
	}
}

// R5: what is handed in stays as it was, and what is answered is not changed by what comes then.
func TestApart(t *testing.T) {
	room := []api.Move{move(1, 1, 1, 0), move(2, 1, 2, 1), move(3, 1, 3, 1), move(4, 1, 4, 1)}
	was := slices.Clone(room)
	r, _ := migrate.Of(room[:3])
	_ = append(r.Log, move(9, 9, 9, 9))
	if !slices.Equal(room, was) {
		t.Error("what was handed in is changed")
	}
	for i := range room {
		room[i] = move(9, 9, 9, 9)
	}
	other, _ := migrate.Of(was[:3])
	for i := range other.Log {
		other.Log[i] = move(9, 9, 9, 9)
	}
	clear(other.Marks)
	if !same(r, of(was[:3])) {
		t.Errorf("what was answered is changed: %v", r)
	}
	for _, s := range []string{elder(t, was), newer(t, of(was))} {
		r, _ := migrate.Read(s)
		other, _ := migrate.Read(s)
		clear(other.Log)
		clear(other.Marks)
		if !same(r, of(was)) {
			t.Errorf("what was answered is changed: %v", r)
		}
	}
}

// R6: what was called ahead is of no moment, be it an error.
func TestAgain(t *testing.T) {
	l := well()[4]
	first, second := elder(t, l), newer(t, of(l))
	for range 20 {
		check(t, first, of(l), api.OK, second, first, api.OK)
		checkWrong(t, first[:9], api.ErrCut)
		check(t, second, of(l), api.OK, second, first, api.OK)
		checkWrong(t, "BNSI\x03", api.ErrVersion)
		if got, e := migrate.Of(wrong()[0]); e != api.ErrArg || !same(got, api.Replica{}) {
			t.Errorf("Of: %d", e)
		}
	}
}
