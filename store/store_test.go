package store_test

import (
	"encoding/binary"
	"fmt"
	"hash/crc32"
	"math"
	"slices"
	"strings"
	"testing"

	"bonsai/api"
	"bonsai/chunk"
	"bonsai/floor"
	"bonsai/marks"
	"bonsai/moves"
	"bonsai/oplog"
	"bonsai/snap"
	"bonsai/store"
	"bonsai/tree"
)

const (
	top  = 1<<62 - 1
	node = 1<<31 - 1
)

// begin is what each file begins with.
const begin = "BNSI\x02"

// A number that is too great for an int, one that is too long, and the most that an int may be, as bytes.
const (
	most63 = "\xff\xff\xff\xff\xff\xff\xff\xff\x7f"
	over63 = "\x80\x80\x80\x80\x80\x80\x80\x80\x80\x01"
	over64 = "\xff\xff\xff\xff\xff\xff\xff\xff\xff\x02"
)

// bodies are those of a file, one of each kind, in their order.
type bodies [8]string

// minus is nought with a minus, none is no number.
func minus() float64 { return math.Copysign(0, -1) }
func none() float64  { return math.NaN() }

// numbers goes without an end by numbers that look like chance, and are the same each time.
func numbers() func() uint64 {
	u := uint64(0x9e3779b97f4a7c15)
	return func() uint64 {
		u = u*6364136223846793005 + 1442695040888963407
		return u ^ u>>29
	}
}

// near tells s with a byte more, less or otherwise at each place, and each begin of it.
func near(s string, some string) []string {
	var all []string
	for i := range len(s) + 1 {
		all = append(all, s[:i])
		for k := range len(some) {
			b := some[k : k+1]
			all = append(all, s[:i]+b+s[i:])
			if i < len(s) {
				all = append(all, s[:i]+b+s[i+1:], s[:i]+s[i+1:])
			}
		}
	}
	return all
}

// at tells a Time.
func at(counter int, replica int) api.Time {
	return api.Time{Counter: counter, Replica: replica}
}

// move makes one of a Counter and a Replica that lays child below parent.
func move(counter int, replica int, child int, parent int) api.Move {
	return api.Move{Time: at(counter, replica), Child: child, Parent: parent}
}

// named makes one with a Name and a Rank.
func named(counter int, replica int, child int, parent int, name string, f float64) api.Move {
	m := move(counter, replica, child, parent)
	m.Name, m.Rank = name, f
	return m
}

// list makes marks of Replicas and Counters, one behind the other.
func list(numbers ...int) []api.Mark {
	var v []api.Mark
	for i := 0; i < len(numbers); i += 2 {
		v = append(v, api.Mark{Replica: numbers[i], Counter: numbers[i+1]})
	}
	return v
}

// chain tells count rows, each node below the one ahead of it.
func chain(count int) []api.Row {
	var l []api.Row
	for i := range count {
		l = append(l, api.Row{Child: i + 1, Parent: i})
	}
	return l
}

// copied tells r in memory of its own.
func copied(r api.Replica) api.Replica {
	r.Base, r.Log, r.Marks = slices.Clone(r.Base), slices.Clone(r.Log), slices.Clone(r.Marks)
	return r
}

// same tells by the document's words whether a and b are the same, field by field.
func same(a api.Replica, b api.Replica) bool {
	return tree.Same(a.Base, b.Base) && a.Floor == b.Floor && moves.Same(a.Log, b.Log) && slices.Equal(a.Marks, b.Marks)
}

// one tells by the document's words a chunk as bytes.
func one(kind int, body string) string {
	b := binary.AppendUvarint([]byte{byte(kind)}, uint64(len(body)))
	b = append(b, body...)
	return string(binary.LittleEndian.AppendUint32(b, crc32.ChecksumIEEE(b)))
}

// show tells v so that it can be read, where there is not too much of it.
func show(v any) string {
	return fmt.Sprintf("%.300s", fmt.Sprintf("%+v", v))
}

// file tells by the document's words a file of those bodies.
func file(b bodies) string {
	s := begin
	for i, body := range b {
		s += one(i+1, body)
	}
	return s
}

// parts tells by the document's words the bodies of r, whether it may be or not.
func parts(t *testing.T, r api.Replica) bodies {
	t.Helper()
	settled, e := snap.Encode(r)
	since, err := oplog.Encode(r.Log)
	if len(settled) != 3 || len(since) != 5 || e != api.OK || err != api.OK {
		t.Fatalf("no bodies of %s: %d, %d", show(r), e, err)
	}
	var b bodies
	for i, c := range append(settled, since...) {
		b[i] = c.Body
	}
	return b
}

// load tells by the document's words what Load is to tell.
func load(s string) (api.Replica, api.Errno) {
	v, e := chunk.Version(s)
	if e != api.OK {
		return api.Replica{}, e
	}
	if v != 2 {
		return api.Replica{}, api.ErrVersion
	}
	_, l, e := chunk.Split(s)
	if e != api.OK {
		return api.Replica{}, e
	}
	if len(l) != 8 {
		return api.Replica{}, api.ErrForm
	}
	r, e := snap.Decode(l[:3])
	if e != api.OK {
		return api.Replica{}, e
	}
	log, e := oplog.Decode(l[3:])
	if e != api.OK {
		return api.Replica{}, e
	}
	r = api.Replica{Base: r.Base, Floor: r.Floor, Log: log, Marks: r.Marks}
	if !floor.May(r) {
		return api.Replica{}, api.ErrForm
	}
	return r, api.OK
}

// checkLoad holds what Load tells of s against r and e.
func checkLoad(t *testing.T, s string, r api.Replica, e api.Errno) {
	t.Helper()
	if got, err := store.Load(s); !same(got, r) || err != e {
		t.Errorf("Load of %.300q: %s, %d, not %s, %d", s, show(got), err, show(r), e)
	}
}

// checkSave holds what Chunks, Save and Size tell of r against b, and what Load tells of its file against r.
func checkSave(t *testing.T, r api.Replica, b bodies) {
	t.Helper()
	s := file(b)
	if got, e := store.Save(r); got != s || e != api.OK {
		t.Errorf("Save of %s: %.300q, %d, not %.300q", show(r), got, e, s)
	}
	if n := store.Size(r); n != len(s) {
		t.Errorf("Size of %s: %d, not %d", show(r), n, len(s))
	}
	var want []api.Chunk
	for i, body := range b {
		want = append(want, api.Chunk{Kind: i + 1, Body: body})
	}
	if got, e := store.Chunks(r); !slices.Equal(got, want) || e != api.OK {
		t.Errorf("Chunks of %s: %s, %d, not %s", show(r), show(got), e, show(want))
	}
	checkLoad(t, s, r, api.OK)
}

// empty are the bodies of a replica without anything.
func empty() bodies {
	return bodies{"\x00\x00", "\x00\x00\x00\x01\x00\x00", "\x00\x00", "\x00", "\x00", "\x00", "\x00", "\x00"}
}

// but tells b with some bodies changed: of each its kind, and what it is then.
func but(b bodies, kinds map[int]string) bodies {
	for kind, body := range kinds {
		b[kind-1] = body
	}
	return b
}

// middle is a replica that has something of all, and its bodies by hand: 1 below Root and 2 below 1, settled up to 3 of
// 2, and two moves since.
func middle() (api.Replica, bodies) {
	r := api.Replica{
		Base:  []api.Row{{Child: 1}, {Child: 2, Parent: 1, Name: "x", Rank: 1}},
		Floor: at(3, 2),
		Log:   []api.Move{named(3, 4, 3, 2, "y", minus()), move(300, 1, 1, 3)},
		Marks: list(1, 300, 2, 3, 4, 7),
	}
	return r, bodies{
		"\x03\x02",
		"\x02\x02\x02\x02\x02\x00\x02\x08\x02\x00\x01x\x00\x01\x01\x01\x02\x01\x01\xbf\xe0\x03",
		"\x03\x03\x02\x02\x04\xd8\x04\xd1\x04\x08",
		"\x02",
		"\x03\x06\xd2\x04\x04\x01\x01\x01",
		"\x02\x04\x02\x06\x03",
		"\x02\x01y\x00\x00\x01\x01\x01",
		"\x03\x00\x01\x01\x80\x01",
	}
}

// many tells count moves, each of a node of its own below the one ahead of it, with a long Name of its own.
func many(count int) []api.Move {
	var l []api.Move
	for i := range count {
		l = append(l, named(top-count+i, i%255+1, i+1, i, fmt.Sprintf("%064d", i), 1/float64(i+3)))
	}
	return l
}

// settled tells r, in which all is settled up to t.
func settled(t *testing.T, r api.Replica, to api.Time) api.Replica {
	t.Helper()
	r, e := floor.Prune(r, to)
	if e != api.OK {
		t.Fatalf("Prune to %v: %d", to, e)
	}
	return r
}

// merged tells r with moves.
func merged(t *testing.T, r api.Replica, l ...api.Move) api.Replica {
	t.Helper()
	r, e := floor.Merge(r, l)
	if e != api.OK {
		t.Fatalf("Merge of %s: %d", show(l), e)
	}
	return r
}

// moved tells count moves by chance of few nodes and replicas, by no order.
func moved(next func() uint64, count int) []api.Move {
	names := []string{"", "a", "\xc3\xa4", strings.Repeat("x", 64)}
	ranks := []float64{0, minus(), 1, none(), math.Inf(-1), 0x1p-1074}
	var l []api.Move
	for range count {
		m := named(int(next()%40)+1, int(next()%3)*100+1, int(next()%6)+1, int(next()%7), names[next()%4], ranks[next()%6])
		if next()%4 == 0 {
			m.Child, m.Parent, m.Rank = int(next()%node)+1, int(next()%node), math.Float64frombits(next())
		}
		l = append(l, m)
	}
	return l
}

// some tells a replica by chance that may be, of up to count moves.
func some(t *testing.T, next func() uint64, count int) api.Replica {
	t.Helper()
	r := merged(t, api.Replica{}, moved(next, count)...)
	if next()%3 > 0 && len(r.Log) > 0 {
		r = settled(t, r, r.Log[next()%uint64(len(r.Log))].Time)
	}
	if next()%2 == 0 {
		r.Marks = marks.Raise(r.Marks, at(int(next()>>(2+next()%62)), int(next()%255)+1))
	}
	return r
}

// P22.1, P22.2, P22.3: what is saved, by hand.
func TestKnown(t *testing.T) {
	r, b := middle()
	if parts(t, r) != b {
		t.Errorf("the test tells %q, not %q", parts(t, r), b)
	}
	checkSave(t, r, b)
	checkSave(t, api.Replica{}, empty())
	checkSave(t, api.Replica{Base: []api.Row{}, Log: []api.Move{}, Marks: []api.Mark{}}, empty())
	checkSave(t, api.Replica{Marks: list(7, 5)}, but(empty(), map[int]string{3: "\x01\x01\x0e\x0a"}))
	checkSave(t, api.Replica{Floor: at(5, 7), Marks: list(7, 5)}, but(empty(), map[int]string{1: "\x05\x07", 3: "\x01\x01\x0e\x0a"}))
	checkSave(t, api.Replica{Floor: at(300, 255), Marks: list(255, top)}, but(empty(), map[int]string{1: "\xac\x02\xff\x01", 3: "\x01\x02\xfe\x03\xfe\xff\xff\xff\xff\xff\xff\xff\x7f"}))
	checkSave(t, api.Replica{Base: chain(1)}, but(empty(), map[int]string{2: "\x01\x01\x02\x01\x00\x04\x01\x00\x00\x01\x01\x01"}))
	checkSave(t, api.Replica{Log: []api.Move{move(5, 2, 3, 0)}, Marks: list(2, 5)}, bodies{"\x00\x00", "\x00\x00\x00\x01\x00\x00", "\x01\x01\x04\x0a", "\x01", "\x01\x0a\x02\x01", "\x01\x00\x06", "\x01\x00\x00\x01", "\x01\x01"})
}

// P22.2: a file, byte by byte.
func TestBytes(t *testing.T) {
	const want = "BNSI\x02" +
		"\x01\x02\x00\x00\x17\x6c\x7c\x9a" +
		"\x02\x06\x00\x00\x00\x01\x00\x00\x19\x87\x15\x45" +
		"\x03\x02\x00\x00\x9c\xa4\x75\x30" +
		"\x04\x01\x00\x8f\x40\x53\xe1" +
		"\x05\x01\x00\xb8\x2a\x91\xe0" +
		"\x06\x01\x00\xe1\x94\xd7\xe2" +
		"\x07\x01\x00\xd6\xfe\x15\xe3" +
		"\x08\x01\x00\xeb\xb9\x49\xe8"
	if s, e := store.Save(api.Replica{}); s != want || len(s) != 68 || e != api.OK {
		t.Errorf("Save of nothing: %q, %d", s, e)
	}
	if n := store.Size(api.Replica{}); n != 68 {
		t.Errorf("Size of nothing: %d", n)
	}
}

// P22.1, P22.2, P22.4: what is saved, by chance: loaded it is as it was, and no other replica has its file.
func TestSome(t *testing.T) {
	next := numbers()
	seen := map[string]api.Replica{}
	for i := range 2000 {
		r := some(t, next, i%9)
		b := parts(t, r)
		checkSave(t, r, b)
		if other, is := seen[file(b)]; is && !same(other, r) {
			t.Errorf("%v and %v have one file", r, other)
		}
		seen[file(b)] = r
	}
	if len(seen) < 1000 {
		t.Errorf("no more than %d replicas", len(seen))
	}
}

// P22.4: replicas that differ in one thing alone have unlike files.
func TestUnlike(t *testing.T) {
	var all []api.Replica
	vary := func(change func(r *api.Replica)) {
		r, _ := middle()
		r.Marks = list(1, 300, 2, 9, 3, 3, 4, 7)
		change(&r)
		all = append(all, r)
	}
	vary(func(r *api.Replica) {})
	vary(func(r *api.Replica) { r.Base = r.Base[:1] })
	vary(func(r *api.Replica) { r.Base = []api.Row{{Child: 3}} })
	vary(func(r *api.Replica) { r.Base[1].Parent = 0 })
	vary(func(r *api.Replica) { r.Base[1].Child = 5 })
	vary(func(r *api.Replica) { r.Base[1].Name = "" })
	vary(func(r *api.Replica) { r.Base[1].Name = "y" })
	vary(func(r *api.Replica) { r.Base[1].Rank = 0 })
	vary(func(r *api.Replica) { r.Base[1].Rank = minus() })
	vary(func(r *api.Replica) { r.Base[1].Rank = none() })
	vary(func(r *api.Replica) { r.Floor = api.Time{} })
	vary(func(r *api.Replica) { r.Floor.Counter = 2 })
	vary(func(r *api.Replica) { r.Floor.Replica = 3 })
	vary(func(r *api.Replica) { r.Log = r.Log[:1] })
	vary(func(r *api.Replica) { r.Log = r.Log[1:] })
	vary(func(r *api.Replica) { r.Log = nil })
	vary(func(r *api.Replica) { r.Log[0].Time.Counter = 4 })
	vary(func(r *api.Replica) { r.Log[0].Time.Replica = 3 })
	vary(func(r *api.Replica) { r.Log[0].Child = 1 })
	vary(func(r *api.Replica) { r.Log[0].Parent = 3 })
	vary(func(r *api.Replica) { r.Log[0].Name = "" })
	vary(func(r *api.Replica) { r.Log[0].Rank = 0 })
	vary(func(r *api.Replica) { r.Log[0].Rank = none() })
	vary(func(r *api.Replica) { r.Marks[0].Counter = 301 })
	vary(func(r *api.Replica) { r.Marks[1].Counter = 8 })
	vary(func(r *api.Replica) { r.Marks = list(1, 300, 2, 9, 4, 7) })
	vary(func(r *api.Replica) { r.Marks = append(r.Marks, api.Mark{Replica: 5, Counter: 1}) })
	seen := map[string]int{}
	for i, r := range all {
		checkSave(t, r, parts(t, r))
		s, _ := store.Save(r)
		if other, is := seen[s]; is {
			t.Errorf("%d and %d have one file", other, i)
		}
		seen[s] = i
	}
}

// P22.1, P22.2, P22.3: as much as may be.
func TestFull(t *testing.T) {
	log := merged(t, api.Replica{}, many(2000)...)
	half := settled(t, log, many(2000)[999].Time)
	all := settled(t, log, many(2000)[1999].Time)
	if len(half.Base) != 1000 || len(half.Log) != 1000 || len(all.Base) != 2000 || len(all.Log) != 0 || len(all.Marks) != 255 {
		t.Fatal("the test has other replicas than it thinks")
	}
	both := all
	for i := range 2000 {
		both.Log = append(both.Log, named(top-1999+i, 255, i+1, 2000-i, strings.Repeat("\xc3\xa4", 32), none()))
	}
	both.Floor, both.Marks = at(1, 1), marks.Join(all.Marks, list(255, top))
	for _, r := range []api.Replica{log, half, all, both} {
		checkSave(t, r, parts(t, r))
	}
}

// P22.1, P22.2, R3: a replica that may not be is not saved, whatever else is right.
func TestSaveWrong(t *testing.T) {
	var all []api.Replica
	wrong := func(change func(r *api.Replica)) {
		r, _ := middle()
		change(&r)
		all = append(all, r)
	}
	wrong(func(r *api.Replica) { r.Base[0].Child = 2 })
	wrong(func(r *api.Replica) { r.Base[0].Parent = 2 })
	wrong(func(r *api.Replica) { r.Base[0].Name = "\xff" })
	wrong(func(r *api.Replica) { r.Base = chain(2001) })
	wrong(func(r *api.Replica) { r.Base = chain(2000); r.Log[0].Child = 2001 })
	wrong(func(r *api.Replica) { r.Floor = at(0, 2) })
	wrong(func(r *api.Replica) { r.Floor = at(-1, 2) })
	wrong(func(r *api.Replica) { r.Floor = at(3, 0) })
	wrong(func(r *api.Replica) { r.Floor = at(3, 3) })
	wrong(func(r *api.Replica) { r.Floor = at(3, 4) })
	wrong(func(r *api.Replica) { r.Floor = at(4, 2) })
	wrong(func(r *api.Replica) { r.Log[0].Time = at(3, 2) })
	wrong(func(r *api.Replica) { r.Log[0].Time = at(300, 1) })
	wrong(func(r *api.Replica) { r.Log[0].Time.Counter = 301 })
	wrong(func(r *api.Replica) { r.Log[0].Child = 0 })
	wrong(func(r *api.Replica) { r.Log[1].Name = strings.Repeat("x", 65) })
	wrong(func(r *api.Replica) { r.Log[1].Parent = -1 })
	wrong(func(r *api.Replica) { r.Log[1].Time.Counter = 301 })
	wrong(func(r *api.Replica) { r.Log = append(r.Log, r.Log[1]) })
	wrong(func(r *api.Replica) { r.Marks[0].Counter = 299 })
	wrong(func(r *api.Replica) { r.Marks[0].Replica = 2 })
	wrong(func(r *api.Replica) { r.Marks[2].Replica = 256 })
	wrong(func(r *api.Replica) { r.Marks = r.Marks[:2] })
	wrong(func(r *api.Replica) { r.Marks = nil })
	wrong(func(r *api.Replica) { *r = api.Replica{Floor: at(1, 1)} })
	wrong(func(r *api.Replica) { *r = api.Replica{Base: []api.Row{{}}} })
	wrong(func(r *api.Replica) { *r = api.Replica{Log: []api.Move{{}}} })
	wrong(func(r *api.Replica) { *r = api.Replica{Marks: []api.Mark{{}}} })
	wrong(func(r *api.Replica) { *r = api.Replica{Floor: at(math.MinInt, math.MinInt)} })
	for _, r := range all {
		if l, e := store.Chunks(r); len(l) != 0 || e != api.ErrArg {
			t.Errorf("Chunks of %s: %s, %d", show(r), show(l), e)
		}
		if s, e := store.Save(r); s != "" || e != api.ErrArg {
			t.Errorf("Save of %s: %.100q, %d", show(r), s, e)
		}
		if n := store.Size(r); n != 0 {
			t.Errorf("Size of %s: %d", show(r), n)
		}
	}
}

// P22.3: files that begin otherwise, whatever stands behind.
func TestLoadBegin(t *testing.T) {
	_, b := middle()
	for _, rest := range []string{"", "\x01", "\x01\x80\x00", file(b)[5:], file(empty())[5:], one(1, "") + "\x01"} {
		for _, s := range []string{"", "B", "BN", "BNS", "bnsi\x02", "BNSJ\x02", "BNS\x02", "\x02BNSI", " BNSI\x02"} {
			checkLoad(t, s+rest, api.Replica{}, api.ErrMagic)
		}
		for v := range 256 {
			if v != 2 {
				checkLoad(t, "BNSI"+string([]byte{byte(v)})+rest, api.Replica{}, api.ErrVersion)
			}
		}
	}
	checkLoad(t, "BNSI", api.Replica{}, api.ErrCut)
	checkLoad(t, "BNSI\x02", api.Replica{}, api.ErrForm)
	checkLoad(t, "BNSI\x01\x00", api.Replica{}, api.ErrVersion)
}

// P22.3, R2: chunks that are none, or stand in no order: these errors go ahead of how many there are, and of what they hold.
func TestLoadSplit(t *testing.T) {
	for _, s := range []string{"", one(1, ""), one(1, "") + one(2, ""), file(empty())[5:], file(empty())[5:] + one(9, "")} {
		for _, c := range []struct {
			rest string
			e    api.Errno
		}{
			{"\x0a", api.ErrCut}, {"\x0a\x80", api.ErrCut}, {"\x0a\x01", api.ErrCut}, {"\x0a\x00\x01\x02\x03", api.ErrCut}, {"\x0a\x80\x00", api.ErrLong}, {"\x0a" + over64, api.ErrLong}, {"\x0a\x81\x80\x40", api.ErrBig}, {"\x0a" + over63, api.ErrBig}, {"\x0a\x80\x80\x40", api.ErrCut}, {"\x0a\x00\x00\x00\x00\x00", api.ErrSum}, {"\x0a\x01" + one(10, "b")[2:6] + "\x00", api.ErrSum}, {one(0, ""), api.ErrOrder}, {one(10, "") + one(10, ""), api.ErrOrder}, {one(10, "") + one(9, ""), api.ErrOrder},
			{one(0, "") + "\x0a", api.ErrOrder}, {one(10, "") + "\x0b\x80\x00", api.ErrLong}, {"\x00\x00\x00\x00\x00\x00", api.ErrSum},
		} {
			checkLoad(t, begin+s+c.rest, api.Replica{}, c.e)
		}
	}
}

// P22.3: more chunks than eight, or fewer, or of other kinds, whatever they hold.
func TestLoadKinds(t *testing.T) {
	_, whole := middle()
	for _, b := range []bodies{whole, empty(), {}} {
		s := file(b)
		checkLoad(t, s+one(9, ""), api.Replica{}, api.ErrForm)
		checkLoad(t, s+one(9, b[7])+one(255, b[0]), api.Replica{}, api.ErrForm)
		for without := range b {
			fewer, less := begin, begin
			for i := range b {
				if i != without {
					fewer += one(i+1, b[i])
				}
				if i < without {
					less += one(i+1, b[i])
				}
			}
			checkLoad(t, fewer, api.Replica{}, api.ErrForm)
			checkLoad(t, less, api.Replica{}, api.ErrForm)
			// Eight there are, too, where another one stands behind all. What the first ones hold is read by then, if it is not
			// one of these that is missing.
			e := api.ErrForm
			if without > 2 && b == (bodies{}) {
				e = api.ErrCut
			}
			checkLoad(t, fewer+one(9, ""), api.Replica{}, e)
			checkLoad(t, fewer+one(255, b[without]), api.Replica{}, e)
		}
	}
	// Those of the first three are asked ahead of what these hold, and those of the others behind that.
	four := one(4, "") + one(5, "") + one(6, "") + one(7, "")
	empties := begin + one(1, "") + one(2, "") + one(3, "")
	checkLoad(t, empties+four+one(8, ""), api.Replica{}, api.ErrCut)
	checkLoad(t, empties+four+one(9, ""), api.Replica{}, api.ErrCut)
	checkLoad(t, begin+one(1, "")+one(2, "")+four+one(8, "")+one(9, ""), api.Replica{}, api.ErrForm)
	settled := begin + one(1, "\x00\x00") + one(2, empty()[1]) + one(3, "\x00\x00")
	checkLoad(t, settled+four+one(8, ""), api.Replica{}, api.ErrCut)
	checkLoad(t, settled+four+one(9, ""), api.Replica{}, api.ErrForm)
}

// P22.3, R2: bodies that are wrong in some way, any two of them together: the first error goes ahead of all others.
func TestLoadFirst(t *testing.T) {
	type way struct {
		kind int
		body string
		e    api.Errno
	}
	ways := []way{
		{1, "", api.ErrCut}, {1, "\x03", api.ErrCut}, {1, "\x83\x00\x02", api.ErrLong}, {1, "\x03\x02\x00", api.ErrForm}, {1, "\x03" + over63, api.ErrForm},
		{2, "", api.ErrCut}, {2, "\x80\x00", api.ErrLong}, {2, "\xd1\x0f", api.ErrBig}, {2, "\x01\x01\x02\x01\x00\x05\x01\x01\xff\x00\x01\x01\x01", api.ErrText}, {2, "\x01\x01\x00\x01\x00\x04\x01\x00\x00\x01\x01\x01", api.ErrForm}, {2, "\x02\x02\x04\x00\x02\x00\x00\x04\x01\x00\x00\x02\x01\x02", api.ErrOrder}, {2, "\x01\x01\x02\x01\x02\x04\x01\x00\x00\x01\x01\x01", api.ErrCycle},
		{3, "", api.ErrCut}, {3, "\x80\x00", api.ErrLong}, {3, "\x80\x02", api.ErrBig}, {3, "\x01\x01\x00\x02", api.ErrForm},
		{4, "", api.ErrCut}, {4, "\x82\x00", api.ErrLong}, {4, "\xd1\x0f", api.ErrBig}, {4, "\x02\x00", api.ErrForm},
		{5, "", api.ErrCut}, {5, "\x81\x00", api.ErrLong}, {5, "\x03\x06\xd2\x04\x04\x01\x01\x02", api.ErrForm},
		{6, "", api.ErrCut}, {6, "\x02\x04\x02\x80\x00", api.ErrLong}, {6, "\x02\x04\x02\x06\x03\x00", api.ErrForm},
		{7, "", api.ErrCut}, {7, "\x80\x00", api.ErrLong}, {7, "\x03", api.ErrBig}, {7, "\x02\x01\xff", api.ErrText}, {7, "\x02\x41" + strings.Repeat("a", 65), api.ErrBig}, {7, "\x02\x00\x00", api.ErrForm},
		{8, "", api.ErrCut}, {8, "\x80\x00", api.ErrLong}, {8, "\x01\x02\x00", api.ErrForm},
	}
	r, b := middle()
	checkLoad(t, file(b), r, api.OK)
	for _, first := range ways {
		checkLoad(t, file(but(b, map[int]string{first.kind: first.body})), api.Replica{}, first.e)
		for _, second := range ways {
			if second.kind > first.kind {
				checkLoad(t, file(but(b, map[int]string{first.kind: first.body, second.kind: second.body})), api.Replica{}, first.e)
			}
		}
	}
	// Moves that may not be are told behind all bodies, and then whether the replica may be.
	checkLoad(t, file(but(b, map[int]string{5: "\x03\x06\xd2\x04\x00\x01\x01\x01"})), api.Replica{}, api.ErrForm)
	checkLoad(t, file(but(b, map[int]string{5: "\x02\x06\x00\x04\x02"})), api.Replica{}, api.ErrOrder)
	checkLoad(t, file(but(b, map[int]string{1: "\x07\x07", 5: "\x02\x06\x00\x04\x02"})), api.Replica{}, api.ErrOrder)
	checkLoad(t, file(but(b, map[int]string{5: "\x02\x06\x00\x04\x02", 8: ""})), api.Replica{}, api.ErrCut)
}

// P22.3: parts that may be, each by itself, but are no replica together.
func TestLoadApart(t *testing.T) {
	r, b := middle()
	for i, body := range []string{"\x03\x03", "\x03\x04", "\x03\x05", "\x04\x02", "\xad\x02\x01", "\x03\x00", "\x00\x02", "\x00\x01", most63 + "\x02", "\x03" + most63, "\x03\x82\x02"} {
		if got, e := snap.Decode([]api.Chunk{{Kind: 1, Body: body}, {Kind: 2, Body: b[1]}, {Kind: 3, Body: b[2]}}); e != api.OK {
			t.Errorf("%d is no head: %v, %d", i, got, e)
		}
		checkLoad(t, file(but(b, map[int]string{1: body})), api.Replica{}, api.ErrForm)
	}
	for _, v := range [][]api.Mark{nil, list(1, 299, 2, 3, 4, 7), list(1, 300, 2, 2, 4, 7), list(1, 300, 2, 3, 4, 2), list(1, 300, 2, 3), list(2, 3, 4, 7), list(1, 300, 4, 7)} {
		checkLoad(t, file(but(b, map[int]string{3: snap.PutMarks(v)})), api.Replica{}, api.ErrForm)
	}
	for _, v := range [][]api.Mark{list(1, 300, 2, 3, 4, 3), list(1, top, 2, top, 3, 1, 4, 3, 255, 1)} {
		with := copied(r)
		with.Marks = v
		checkLoad(t, file(but(b, map[int]string{3: snap.PutMarks(v)})), with, api.OK)
	}
	// A Log of which a move is not behind the Floor.
	stale := copied(r)
	stale.Log[0].Time = at(3, 2)
	checkLoad(t, file(parts(t, stale)), api.Replica{}, api.ErrForm)
	stale.Log[0].Time = at(2, 4)
	checkLoad(t, file(parts(t, stale)), api.Replica{}, api.ErrForm)
	// More Children than there may be, of which Base alone, or Log alone, has no more.
	big := api.Replica{Base: chain(2000), Log: []api.Move{move(1, 1, 2000, 0)}, Marks: list(1, 1)}
	checkLoad(t, file(parts(t, big)), big, api.OK)
	big.Log[0].Child = 2001
	checkLoad(t, file(parts(t, big)), api.Replica{}, api.ErrForm)
	log := merged(t, api.Replica{}, many(2000)...)
	log.Base = []api.Row{{Child: 2001}}
	checkLoad(t, file(parts(t, log)), api.Replica{}, api.ErrForm)
}

// P22.3, P22.4: files that are cut off, or behind which something stands, or of which a byte is another one: there is an
// error, and nothing else.
func TestLoadSpoilt(t *testing.T) {
	next := numbers()
	r, b := middle()
	all := []string{file(b), file(empty())}
	for i := range 4 {
		all = append(all, file(parts(t, some(t, next, i*4))))
	}
	for _, s := range all {
		for n := range s {
			if got, e := store.Load(s[:n]); e == api.OK || !same(got, api.Replica{}) {
				t.Errorf("Load of %d bytes of %q: %v, %d", n, s, got, e)
			}
			_, e := load(s[:n])
			checkLoad(t, s[:n], api.Replica{}, e)
			for _, bit := range []byte{1, 2, 16, 128, 255} {
				other := s[:n] + string([]byte{s[n] ^ bit}) + s[n+1:]
				if got, e := store.Load(other); e == api.OK || !same(got, api.Replica{}) {
					t.Errorf("Load of %q, a byte of it is another one: %v, %d", other, got, e)
				}
				_, e := load(other)
				checkLoad(t, other, api.Replica{}, e)
			}
		}
		for _, rest := range []string{"\x00", "\x09", "\xff", s, one(9, ""), one(8, ""), s[5:]} {
			_, e := load(s + rest)
			if e == api.OK {
				t.Errorf("the test tells no error of %q", s+rest)
			}
			checkLoad(t, s+rest, api.Replica{}, e)
		}
	}
	// A byte of a body, or of its sum, is spoilt.
	s := file(b)
	end := len(begin)
	for i, body := range b {
		from := end + 2
		end += len(one(i+1, body))
		for n := from; n < end; n++ {
			checkLoad(t, s[:n]+string([]byte{s[n] + 1})+s[n+1:], api.Replica{}, api.ErrSum)
		}
	}
	checkLoad(t, s, r, api.OK)
}

// P22.3, P22.4: files of which a body is nearly a replica's, and its sum is right: each is none, or just one's.
func TestLoadAll(t *testing.T) {
	next := numbers()
	_, whole := middle()
	all := []bodies{whole, empty(), parts(t, api.Replica{Base: chain(9)})}
	for i := range 5 {
		all = append(all, parts(t, some(t, next, i*2)))
	}
	told := map[api.Errno]int{}
	for _, b := range all {
		for kind := 1; kind <= 8; kind++ {
			for _, body := range near(b[kind-1], "\x00\x01\x02\x03\x05\x40\x7fa\x80\xc3\xff") {
				s := file(but(b, map[int]string{kind: body}))
				r, e := load(s)
				checkLoad(t, s, r, e)
				if e != api.OK || body == b[kind-1] {
					told[e]++
					continue
				}
				told[api.OK]++
				if got, e := store.Save(r); got != s || e != api.OK {
					t.Errorf("%q is %v, of which Save is %q, %d", s, r, got, e)
				}
			}
		}
	}
	for _, e := range []api.Errno{api.OK, api.ErrCut, api.ErrLong, api.ErrText, api.ErrForm, api.ErrBig, api.ErrCycle, api.ErrOrder} {
		if told[e] < 3 {
			t.Errorf("%d told %d times", e, told[e])
		}
	}
}

// P22.3: a number that has a byte too many, in each body, and as a chunk's length.
func TestLoadLong(t *testing.T) {
	_, b := middle()
	for _, c := range []struct {
		kind int
		body string
	}{{1, "\x83\x00\x02"}, {1, "\x03\x82\x00"}, {2, "\x82\x00" + b[1][1:]}, {2, "\x02\x82\x00" + b[1][2:]}, {3, "\x83\x00" + b[2][1:]}, {3, b[2][:9] + "\x88\x00"}, {4, "\x82\x00"}, {5, "\x83\x00" + b[4][1:]}, {5, b[4][:7] + "\x81\x00"}, {6, b[5][:4] + "\x83\x00"}, {7, "\x82\x00" + b[6][1:]}, {8, "\x83\x00" + b[7][1:]}, {8, b[7][:4] + "\x80\x81\x00"}} {
		checkLoad(t, file(but(b, map[int]string{c.kind: c.body})), api.Replica{}, api.ErrLong)
	}
	s := file(b)
	checkLoad(t, s[:6]+"\x82\x00"+s[7:], api.Replica{}, api.ErrLong)
}

// P22.3: bodies that are as long as may be, and longer.
func TestLoadBig(t *testing.T) {
	long := strings.Repeat("\x00", 1<<20)
	checkLoad(t, file(but(empty(), map[int]string{1: long})), api.Replica{}, api.ErrForm)
	checkLoad(t, file(but(empty(), map[int]string{1: long + "\x00"})), api.Replica{}, api.ErrBig)
	checkLoad(t, file(but(empty(), map[int]string{8: "\x00" + long})), api.Replica{}, api.ErrBig)
}

// P22.4: replicas that took the same moves in unlike orders, some of them twice, have one file, and so have they when both
// settled them.
func TestOneFile(t *testing.T) {
	next := numbers()
	for range 100 {
		l := moves.Union(nil, moved(next, 12))
		a, b := merged(t, api.Replica{}, l...), api.Replica{}
		for i := len(l); i > 0; i-- {
			k := int(next() % uint64(i))
			b = merged(t, b, l[k], l[k], l[0])
			l[k], l[i-1] = l[i-1], l[k]
		}
		b = merged(t, b, l...)
		for range 3 {
			if len(a.Log) == 0 {
				break
			}
			first, _ := store.Save(a)
			second, e := store.Save(b)
			if first != second || e != api.OK {
				t.Errorf("two files: of %v and of %v", a, b)
			}
			to := a.Log[next()%uint64(len(a.Log))].Time
			a, b = settled(t, a, to), settled(t, b, to)
		}
	}
}

// P1, P22.4: a replica that is saved and loaded goes on as if it had not been.
func TestGoesOn(t *testing.T) {
	next := numbers()
	for range 60 {
		a := some(t, next, 10)
		b := copied(a)
		for _, m := range moved(next, 10) {
			s, e := store.Save(b)
			if e != api.OK {
				t.Fatalf("Save of %v: %d", b, e)
			}
			if b, e = store.Load(s); e != api.OK {
				t.Fatalf("Load of %q: %d", s, e)
			}
			var isA, isB bool
			var eA, eB api.Errno
			a, isA, eA = floor.Add(a, m)
			b, isB, eB = floor.Add(b, m)
			if isA != isB || eA != eB || !same(a, b) || !tree.Same(floor.Tree(a), floor.Tree(b)) {
				t.Fatalf("%v and %v, behind %v: %t, %d and %t, %d", a, b, m, isA, eA, isB, eB)
			}
			if next()%3 == 0 {
				a, eA = floor.Prune(a, m.Time)
				b, eB = floor.Prune(b, m.Time)
				if eA != eB || !same(a, b) {
					t.Fatalf("%v and %v, settled to %v: %d and %d", a, b, m.Time, eA, eB)
				}
			}
		}
	}
}

// The document's examples of the whole that are of files: what is settled leaves the tree and fewer moves in the file, and
// is stale then, and kids stand by their Ranks' bits.
func TestExamples(t *testing.T) {
	all := merged(t, api.Replica{}, named(1, 1, 1, 0, "a", minus()), named(2, 1, 2, 0, "b", 0), named(3, 2, 3, 0, "c", minus()), move(4, 1, 1, 2), named(5, 2, 1, 0, "a", none()))
	part := settled(t, all, at(4, 1))
	for _, r := range []api.Replica{all, part} {
		s, e := store.Save(r)
		back, err := store.Load(s)
		if e != api.OK || err != api.OK {
			t.Fatalf("%v: %d, %d", r, e, err)
		}
		var kids []int
		for _, row := range tree.Kids(floor.Tree(back), api.Root) {
			kids = append(kids, row.Child)
		}
		if !slices.Equal(kids, []int{3, 2, 1}) {
			t.Errorf("the kids of Root are %v", kids)
		}
		if !tree.Same(floor.Tree(back), floor.Tree(all)) {
			t.Errorf("the tree is %v", floor.Tree(back))
		}
	}
	if len(part.Log) != 1 || store.Size(part) == store.Size(all) {
		t.Errorf("settled there are %d moves", len(part.Log))
	}
	s, _ := store.Save(part)
	back, _ := store.Load(s)
	if _, _, e := floor.Add(back, move(4, 1, 9, 0)); e != api.ErrStale {
		t.Errorf("a move of the Floor's Time: %d", e)
	}
	_, l, _ := chunk.Split(s)
	if words, is := chunk.Find(l, api.Words); words != "\x01" || !is {
		t.Errorf("the file has %q moves", words)
	}
}

// R5: what is handed in stays as it was, and what is answered is not changed by what comes then.
func TestApart(t *testing.T) {
	r, b := middle()
	was := copied(r)
	s, _ := store.Save(r)
	l, _ := store.Chunks(r)
	back, _ := store.Load(s)
	if !same(r, was) {
		t.Error("what was handed in is changed")
	}
	kept, wasBack := slices.Clone(l), copied(back)
	clear(r.Base)
	clear(r.Log)
	clear(r.Marks)
	second, _ := store.Chunks(was)
	clear(second)
	other, _ := store.Load(s)
	clear(other.Base)
	clear(other.Log)
	clear(other.Marks)
	store.Load(file(empty()))
	if s != file(b) || !slices.Equal(l, kept) || !same(back, wasBack) || !same(back, was) {
		t.Error("what was answered is changed")
	}
	checkSave(t, was, b)
}

// R6: what was called ahead is of no moment, be it an error.
func TestAgain(t *testing.T) {
	r, b := middle()
	for range 20 {
		checkSave(t, r, b)
		checkSave(t, api.Replica{}, empty())
		checkLoad(t, file(but(b, map[int]string{8: ""})), api.Replica{}, api.ErrCut)
		checkLoad(t, begin, api.Replica{}, api.ErrForm)
		if _, e := store.Save(api.Replica{Floor: at(1, 1)}); e != api.ErrArg {
			t.Errorf("Save: %d", e)
		}
	}
}
