package chunk_test

import (
	"encoding/binary"
	"hash/crc32"
	"math"
	"slices"
	"strings"
	"testing"

	"bonsai/api"
	"bonsai/chunk"
)

const most = 1 << 20

// numbers goes without an end by numbers that look like chance, and are the same each time.
func numbers() func() uint64 {
	u := uint64(0x9e3779b97f4a7c15)
	return func() uint64 {
		u = u*6364136223846793005 + 1442695040888963407
		return u ^ u>>29
	}
}

// sealed tells s, and the sum of it.
func sealed(s string) string {
	return s + string(binary.LittleEndian.AppendUint32(nil, crc32.ChecksumIEEE([]byte(s))))
}

// one tells by the document's words what a chunk is as bytes.
func one(kind byte, body string) string {
	return sealed(string(binary.AppendUvarint([]byte{kind}, uint64(len(body)))) + body)
}

// file is a version, chunks, and the bytes that they are.
type file struct {
	version int
	l       []api.Chunk
	s       string
}

// files are what the document's words make by hand of some chunks.
func files() []file {
	big := strings.Repeat("\x00\xff", most/2)
	all := file{version: 1, s: "BNSI\x01"}
	for kind := 1; kind <= 255; kind++ {
		body := strings.Repeat(string([]byte{byte(kind)}), kind%5)
		all.l = append(all.l, api.Chunk{Kind: kind, Body: body})
		all.s += one(byte(kind), body)
	}
	return []file{
		{2, nil, "BNSI\x02"},
		{0, []api.Chunk{}, "BNSI\x00"},
		{255, nil, "BNSI\xff"},
		{2, []api.Chunk{{Kind: 1}}, "BNSI\x02\x01\x00\xbe\x23\xc2\x58"},
		{0, []api.Chunk{{Kind: 255, Body: "BNSI\x00"}}, "BNSI\x00\xff\x05BNSI\x00\x7f\x44\x2e\x49"},
		{10, []api.Chunk{{Kind: 1, Body: "a"}, {Kind: 2}, {Kind: 8, Body: "\x00"}}, "BNSI\n" + one(1, "a") + one(2, "") + one(8, "\x00")},
		{1, []api.Chunk{{Kind: 3, Body: "\xff\xfe"}, {Kind: 254, Body: "ä"}, {Kind: 255, Body: "\x00\x00"}}, "BNSI\x01" + one(3, "\xff\xfe") + one(254, "ä") + one(255, "\x00\x00")},
		{2, []api.Chunk{{Kind: 1, Body: strings.Repeat("x", 127)}, {Kind: 2, Body: strings.Repeat("y", 128)}}, "BNSI\x02" + sealed("\x01\x7f"+strings.Repeat("x", 127)) + sealed("\x02\x80\x01"+strings.Repeat("y", 128))},
		{2, []api.Chunk{{Kind: 7, Body: big}, {Kind: 8, Body: "z"}}, "BNSI\x02" + sealed("\x07\x80\x80\x40"+big) + one(8, "z")},
		all,
	}
}

// P11.1: One, also of a Kind that is no byte, and of a Body that is too big for a file.
func TestOne(t *testing.T) {
	for kind, want := range map[int]byte{1: 1, 0: 0, 255: 255, 256: 0, 257: 1, -1: 255, -256: 0, -255: 1, math.MaxInt: 255, math.MinInt: 0, 0x1234: 0x34} {
		for _, body := range []string{"", "a", "ab", "\x00", "\xff\xff", strings.Repeat("b", 127), strings.Repeat("c", 128), strings.Repeat("d", 1<<14), strings.Repeat("e", most+1)} {
			if got := chunk.One(api.Chunk{Kind: kind, Body: body}); got != one(want, body) {
				t.Errorf("One of kind %d, %d bytes: %d bytes", kind, len(body), len(got))
			}
		}
	}
	// These sums were reckoned elsewhere.
	for want, c := range map[string]api.Chunk{
		"\x01\x00\xbe\x23\xc2\x58":         {Kind: 1},
		"\x00\x00\xff\x12\xd9\x41":         {},
		"\xff\x05BNSI\x00\x7f\x44\x2e\x49": {Kind: 255, Body: "BNSI\x00"},
		"\x31\x083456789x\x0b\x2d\x05\xe5": {Kind: 49, Body: "3456789x"},
	} {
		if got := chunk.One(c); got != want {
			t.Errorf("One of %v: %q, not %q", c, got, want)
		}
	}
}

// P11.1: Find.
func TestFind(t *testing.T) {
	l := []api.Chunk{{Kind: 2, Body: "a"}, {Kind: 1, Body: "b"}, {Kind: 2, Body: "c"}, {Kind: 0, Body: "d"}, {Kind: 7}, {Kind: 7, Body: "e"}, {Kind: -1, Body: "f"}, {Kind: 257, Body: "g"}}
	for _, c := range []struct {
		l    []api.Chunk
		kind int
		body string
		is   bool
	}{
		{l, 2, "a", true}, {l, 1, "b", true}, {l, 0, "d", true}, {l, 7, "", true}, {l, -1, "f", true}, {l, 257, "g", true},
		{l, 3, "", false}, {l, 255, "", false}, {l, 256, "", false}, {l, 513, "", false}, {l, math.MaxInt, "", false}, {l, math.MinInt, "", false},
		{nil, 0, "", false}, {nil, 1, "", false}, {[]api.Chunk{}, 1, "", false}, {[]api.Chunk{{}}, 0, "", true}, {l[3:], 2, "", false}, {l[1:], 2, "c", true},
	} {
		if body, is := chunk.Find(c.l, c.kind); body != c.body || is != c.is {
			t.Errorf("Find of %v, %d: %q, %v", c.l, c.kind, body, is)
		}
	}
}

// P11.2: Join.
func TestJoin(t *testing.T) {
	for i, c := range files() {
		if s, err := chunk.Join(c.version, c.l); s != c.s || err != api.OK {
			t.Errorf("Join of file %d: %.60q, %d", i, s, err)
		}
	}
	for version := range 256 {
		if s, err := chunk.Join(version, nil); s != "BNSI"+string([]byte{byte(version)}) || err != api.OK {
			t.Errorf("Join of version %d: %q, %d", version, s, err)
		}
	}
}

// P11.2: what Join refuses, and by which error first.
func TestJoinWrong(t *testing.T) {
	full, big := strings.Repeat("x", most), strings.Repeat("x", most+1)
	for i, c := range []struct {
		version int
		l       []api.Chunk
		err     api.Errno
	}{
		{-1, nil, api.ErrArg}, {256, nil, api.ErrArg}, {math.MinInt, nil, api.ErrArg}, {math.MaxInt, nil, api.ErrArg},
		{-1, []api.Chunk{{Kind: 0, Body: big}}, api.ErrArg}, {256, []api.Chunk{{Kind: 2}, {Kind: 1}}, api.ErrArg}, {258, []api.Chunk{{Kind: 1, Body: big}}, api.ErrArg},
		{2, []api.Chunk{{}}, api.ErrOrder}, {2, []api.Chunk{{Kind: -1}}, api.ErrOrder}, {2, []api.Chunk{{Kind: 256}}, api.ErrOrder}, {2, []api.Chunk{{Kind: 257}}, api.ErrOrder},
		{2, []api.Chunk{{Kind: math.MinInt}}, api.ErrOrder}, {2, []api.Chunk{{Kind: math.MaxInt}}, api.ErrOrder},
		{2, []api.Chunk{{Kind: 1}, {Kind: 1}}, api.ErrOrder}, {2, []api.Chunk{{Kind: 2}, {Kind: 1}}, api.ErrOrder}, {2, []api.Chunk{{Kind: 1}, {Kind: 0}}, api.ErrOrder}, {2, []api.Chunk{{Kind: 1}, {Kind: -2}}, api.ErrOrder},
		{2, []api.Chunk{{Kind: 255}, {Kind: 256}}, api.ErrOrder}, {2, []api.Chunk{{Kind: 1}, {Kind: 3}, {Kind: 2}}, api.ErrOrder}, {2, []api.Chunk{{Kind: 1}, {Kind: 2}, {Kind: 2}}, api.ErrOrder},
		{2, []api.Chunk{{Kind: 1, Body: big}}, api.ErrBig}, {2, []api.Chunk{{Kind: 1}, {Kind: 2, Body: big}}, api.ErrBig}, {2, []api.Chunk{{Kind: 1, Body: full}, {Kind: 2, Body: big}}, api.ErrBig},
		{2, []api.Chunk{{Kind: 0, Body: big}}, api.ErrOrder}, {2, []api.Chunk{{Kind: 256, Body: big}}, api.ErrOrder}, {2, []api.Chunk{{Kind: 2}, {Kind: 2, Body: big}}, api.ErrOrder},
		{2, []api.Chunk{{Kind: 1, Body: big}, {Kind: 0}}, api.ErrBig}, {2, []api.Chunk{{Kind: 1, Body: big}, {Kind: 1}}, api.ErrBig}, {2, []api.Chunk{{Kind: 1}, {Kind: 1}, {Kind: 2, Body: big}}, api.ErrOrder},
	} {
		if s, err := chunk.Join(c.version, c.l); s != "" || err != c.err {
			t.Errorf("Join of case %d: %d bytes, %d, not %d", i, len(s), err, c.err)
		}
	}
}

// P11.3: Version.
func TestVersion(t *testing.T) {
	for version := range 256 {
		for _, rest := range []string{"", "\x01", "BNSI\x02", "\x00\x00\x00"} {
			s := "BNSI" + string([]byte{byte(version)}) + rest
			if got, err := chunk.Version(s); got != version || err != api.OK {
				t.Errorf("Version of %q: %d, %d", s, got, err)
			}
		}
	}
	for s, want := range map[string]api.Errno{
		"BNSI": api.ErrCut, "": api.ErrMagic, "B": api.ErrMagic, "BN": api.ErrMagic, "BNS": api.ErrMagic, "BNS\x02": api.ErrMagic, "BNS\x02\x02": api.ErrMagic,
		"bnsi\x02": api.ErrMagic, "BNSi\x02": api.ErrMagic, "XNSI\x02": api.ErrMagic, "BNSJ": api.ErrMagic, " BNSI\x02": api.ErrMagic, "NSI\x02\x02": api.ErrMagic, "\x02BNSI": api.ErrMagic, "ISNB\x02": api.ErrMagic,
	} {
		if got, err := chunk.Version(s); got != 0 || err != want {
			t.Errorf("Version of %q: %d, %d, not %d", s, got, err, want)
		}
		if got, l, err := chunk.Split(s); got != 0 || len(l) != 0 || err != want {
			t.Errorf("Split of %q: %d, %v, %d, not %d", s, got, l, err, want)
		}
	}
}

// num reads by the document's words a number from s: it, what is behind it, and the error.
func num(s string) (uint64, string, api.Errno) {
	n := uint64(0)
	for i := range len(s) {
		if i == 9 && s[i] > 1 || i > 0 && s[i] == 0 {
			return 0, "", api.ErrLong
		}
		n += uint64(s[i]%128) << (7 * i)
		if s[i] < 128 {
			return n, s[i+1:], api.OK
		}
	}
	return 0, "", api.ErrCut
}

// split tells by the document's words what s is split into.
func split(s string) (int, []api.Chunk, api.Errno) {
	if len(s) < 4 || s[:4] != "BNSI" {
		return 0, nil, api.ErrMagic
	}
	if len(s) == 4 {
		return 0, nil, api.ErrCut
	}
	version, kind := int(s[4]), 0
	var l []api.Chunk
	for s = s[5:]; s != ""; {
		size, rest, err := num(s[1:])
		if err != api.OK {
			return 0, nil, err
		}
		if size > most {
			return 0, nil, api.ErrBig
		}
		if uint64(len(rest)) < size+4 {
			return 0, nil, api.ErrCut
		}
		under, sum := s[:len(s)-len(rest)+int(size)], rest[size:size+4]
		if sealed(under) != under+sum {
			return 0, nil, api.ErrSum
		}
		if s[0] == 0 || int(s[0]) <= kind {
			return 0, nil, api.ErrOrder
		}
		kind = int(s[0])
		l = append(l, api.Chunk{Kind: kind, Body: rest[:size]})
		s = rest[size+4:]
	}
	return version, l, api.OK
}

// check holds Split of s against the document's words, and, if s is a file, Join against s.
func check(t *testing.T, s string) api.Errno {
	t.Helper()
	version, l, err := chunk.Split(s)
	if v, k, e := split(s); version != v || !slices.Equal(l, k) || err != e {
		t.Errorf("Split of %.60q: %d, %.60v, %d, not %d, %.60v, %d", s, version, l, err, v, k, e)
	}
	if err != api.OK {
		return err
	}
	if got, err := chunk.Join(version, l); got != s || err != api.OK {
		t.Errorf("Split and Join of %.60q: %.60q, %d", s, got, err)
	}
	return err
}

// P11.4 and P11.5: Split of what is joined.
func TestSplit(t *testing.T) {
	for i, c := range files() {
		if version, l, err := chunk.Split(c.s); version != c.version || !slices.Equal(l, c.l) || err != api.OK {
			t.Errorf("Split of file %d: %d, %.60v, %d", i, version, l, err)
		}
	}
	next := numbers()
	for range 500 {
		var l []api.Chunk
		for kind := int(next() % 20); kind <= 255 && len(l) < 40; kind += int(next() % 60) {
			if len(l) == 0 && kind == 0 || len(l) > 0 && kind == l[len(l)-1].Kind {
				kind++
			}
			body := make([]byte, next()%(1<<(next()%9)))
			for i := range body {
				body[i] = byte(next())
			}
			l = append(l, api.Chunk{Kind: kind, Body: string(body)})
		}
		for i, c := range l {
			if c.Kind > 255 {
				l = l[:i]
				break
			}
		}
		version := int(next() % 256)
		s, err := chunk.Join(version, l)
		if err != api.OK {
			t.Fatalf("Join of %v: %d", l, err)
		}
		if v, k, err := chunk.Split(s); v != version || !slices.Equal(k, l) || err != api.OK {
			t.Errorf("Split of Join of %d, %v: %d, %v, %d", version, l, v, k, err)
		}
	}
}

// P11.4: what Split refuses, and by which error first.
func TestSplitWrong(t *testing.T) {
	big := strings.Repeat("x", most+1)
	good := one(5, "good")
	for i, c := range []struct {
		rest string
		err  api.Errno
	}{
		// The length.
		{"\x01", api.ErrCut}, {"\x00", api.ErrCut}, {"\x01\x80", api.ErrCut}, {"\x01\xff\xff", api.ErrCut}, {"\x01\x80\x00", api.ErrLong}, {sealed("\x01\x80\x00"), api.ErrLong}, {sealed("\x01\x81\x00a"), api.ErrLong},
		{sealed("\x00\x80\x00"), api.ErrLong}, {"\x01\xff\xff\xff\xff\xff\xff\xff\xff\xff", api.ErrCut}, {"\x01\xff\xff\xff\xff\xff\xff\xff\xff\xff\x02", api.ErrLong}, {"\x01\xff\xff\xff\xff\xff\xff\xff\xff\xff\x80", api.ErrLong},
		{good + "\x06", api.ErrCut}, {good + "\x06\x80\x00", api.ErrLong}, {good + "\x00\x80", api.ErrCut}, {good + "\x05\x80\x00", api.ErrLong},
		// What it is.
		{"\x01\x81\x80\x40", api.ErrBig}, {sealed("\x01\x81\x80\x40" + big), api.ErrBig}, {"\x01\xff\xff\xff\xff\xff\xff\xff\xff\xff\x01", api.ErrBig}, {"\x01\xff\xff\xff\xff\xff\xff\xff\xff\x7f", api.ErrBig}, {"\x01\x80\x80\x80\x80\x80\x80\x80\x80\x80\x01", api.ErrBig},
		{"\x01\x80\x80\x80\x80\x10", api.ErrBig}, {"\x01\x80\x80\x80\x80\x08", api.ErrBig}, {"\x00\x81\x80\x40", api.ErrBig}, {good + "\x01\x81\x80\x40", api.ErrBig}, {good + "\x06\x81\x80\x40" + "abcd", api.ErrBig},
		// What is behind it.
		{"\x01\x80\x80\x40", api.ErrCut}, {"\x01\x00", api.ErrCut}, {"\x01\x00\xbe\x23\xc2", api.ErrCut}, {"\x01\x01abc", api.ErrCut}, {"\x01\x01abcd", api.ErrCut}, {"\x01\x80\x80\x40" + big[:most-1], api.ErrCut}, {"\x01\x80\x80\x40" + big + "xx", api.ErrCut}, {"\x00\x00abc", api.ErrCut},
		{good + "\x05\x00abc", api.ErrCut}, {good + good[:len(good)-1], api.ErrCut}, {good + "\x06\x03abcdef", api.ErrCut},
		// The sum.
		{"\x01\x00\x00\x00\x00\x00", api.ErrSum}, {"\x01\x00\xff\xff\xff\xff", api.ErrSum}, {"\x01\x00\x58\xc2\x23\xbe", api.ErrSum}, {"\x01\x01abcde", api.ErrSum}, {"\x01\x80\x80\x40" + big + "xxx", api.ErrSum}, {"\x02\x00\xbe\x23\xc2\x58", api.ErrSum},
		{"\x01\x02" + sealed("ab"), api.ErrSum}, {"\x01" + sealed("\x02ab"), api.ErrSum}, {"\x00\x00abcd", api.ErrSum}, {good + "\x05\x00abcd", api.ErrSum}, {good + "\x01\x00abcd", api.ErrSum}, {good + "\x06\x00abcd", api.ErrSum},
		// The Kind.
		{one(0, ""), api.ErrOrder}, {one(0, "a"), api.ErrOrder}, {good + one(0, ""), api.ErrOrder}, {good + good, api.ErrOrder}, {good + one(5, ""), api.ErrOrder}, {good + one(4, "a"), api.ErrOrder}, {good + one(6, "a") + good, api.ErrOrder},
		{one(255, "") + one(255, ""), api.ErrOrder}, {one(255, "") + one(0, ""), api.ErrOrder}, {one(0, "") + one(1, ""), api.ErrOrder},
		// Chunk by chunk.
		{one(0, "") + "\x01", api.ErrOrder}, {one(0, "") + "\x01\x00abcd", api.ErrOrder}, {"\x01\x00abcd" + one(0, ""), api.ErrSum}, {"\x01\x00abcd\x02\x80\x00", api.ErrSum}, {good + good + "\x06\x80\x00", api.ErrOrder}, {"\x01\x80\x00" + good, api.ErrLong}, {"\x01\x81\x80\x40" + good, api.ErrBig},
		// More than chunks.
		{good + "x", api.ErrCut}, {good + "\x00", api.ErrCut}, {one(255, "") + "\x00\x00\x00\x00\x00", api.ErrCut}, {one(255, "") + "\x00\x00\x00\x00\x00\x00", api.ErrSum}, {"BNSI\x02", api.ErrCut}, {"BNSI\x02" + good + good + good + good + good + good + good + good, api.ErrSum},
	} {
		if version, l, err := chunk.Split("BNSI\x02" + c.rest); version != 0 || len(l) != 0 || err != c.err {
			t.Errorf("Split of case %d: %d, %.60v, %d, not %d", i, version, l, err, c.err)
		}
		check(t, "BNSI\x02"+c.rest)
	}
}

// P11.4: Split of files of up to three parts, of which each is well, spoilt, or no chunk at all; and of what is left when
// such a file is cut.
func TestSplitParts(t *testing.T) {
	var parts []string
	for _, kind := range []byte{0, 1, 2, 255} {
		good := one(kind, "ab")
		parts = append(parts, good, one(kind, ""), good[:3]+"x"+good[4:], good[:len(good)-1], good+"\x00", sealed(string([]byte{kind})+"\x82\x00ab"), sealed(string([]byte{kind})+"\x81\x80\x40ab"))
	}
	files := []string{"BNSI\x02"}
	for begin := 0; begin < len(files) && len(files) < 1+28+28*28+28*28*28; begin++ {
		for _, part := range parts {
			files = append(files, files[begin]+part)
		}
	}
	seen := map[api.Errno]int{}
	for _, s := range files {
		seen[check(t, s)]++
	}
	for _, err := range []api.Errno{api.OK, api.ErrCut, api.ErrLong, api.ErrBig, api.ErrSum, api.ErrOrder} {
		if seen[err] == 0 {
			t.Errorf("no file tells %d", err)
		}
	}
	for _, c := range files[:300] {
		for end := range len(c) {
			check(t, c[:end])
		}
	}
}

// P11.4: Split of all short texts of some bytes, and of all that differ by a byte from a file.
func TestSplitBytes(t *testing.T) {
	short := []string{"BNSI\x02"}
	for begin := 0; len(short[begin]) < 5+6; begin++ {
		for _, b := range []byte{0, 1, 2, 0x80, 0xff} {
			short = append(short, short[begin]+string([]byte{b}))
		}
	}
	for _, s := range short {
		check(t, s)
	}
	s := "BNSI\x02" + one(1, "a") + one(2, "") + one(9, strings.Repeat("c", 130))
	for at := range len(s) {
		for b := range 256 {
			check(t, s[:at]+string([]byte{byte(b)})+s[at+1:])
		}
		check(t, s[:at]+s[at+1:])
		check(t, s[:at]+"\x00"+s[at:])
	}
}

// P11.5: no file of which up to four bytes of a body or its sum were changed is split.
func TestChanged(t *testing.T) {
	l := []api.Chunk{{Kind: 1, Body: "bonsai"}, {Kind: 2}, {Kind: 200, Body: "\x00\x00\x00\x00\x00\x00"}, {Kind: 255, Body: strings.Repeat("\xff", 9)}}
	s, err := chunk.Join(2, l)
	if err != api.OK {
		t.Fatal(err)
	}
	next := numbers()
	begin := 5
	for _, c := range l {
		end := begin + len(chunk.One(c))
		for at := begin + 2; at < end; at++ {
			var patterns []uint64
			for by := range uint64(256) {
				patterns = append(patterns, by, by<<8, by<<16, by<<24, by|by<<8, by|by<<16, by|by<<24, by*0x01010101)
			}
			for range 500 {
				patterns = append(patterns, next())
			}
			for _, by := range patterns {
				changed := []byte(s)
				for i := at; i < min(at+4, end); i, by = i+1, by>>8 {
					changed[i] ^= byte(by)
				}
				if string(changed) == s {
					continue
				}
				if version, l, err := chunk.Split(string(changed)); version != 0 || len(l) != 0 || err != api.ErrSum {
					t.Fatalf("Split of %q: %d, %v, %d", changed, version, l, err)
				}
			}
		}
		begin = end
	}
}

// R5: what is handed in stays as it is, and no list that was told is told again.
func TestApart(t *testing.T) {
	l := []api.Chunk{{Kind: 1, Body: "a"}, {Kind: 2, Body: "b"}, {Kind: 1, Body: "c"}}
	was := slices.Clone(l)
	chunk.One(l[0])
	chunk.Find(l, 2)
	if _, err := chunk.Join(2, l); err != api.ErrOrder {
		t.Errorf("Join: %d", err)
	}
	s, _ := chunk.Join(2, l[:2])
	if !slices.Equal(l, was) {
		t.Errorf("chunks changed: %v", l)
	}
	_, first, _ := chunk.Split(s)
	_, second, _ := chunk.Split(s)
	first[0] = api.Chunk{Kind: 9, Body: "x"}
	if _, third, _ := chunk.Split(s); !slices.Equal(second, was[:2]) || !slices.Equal(third, was[:2]) {
		t.Errorf("Split shares: %v, %v", second, third)
	}
}

// R6: what was called ahead is of no moment, be it an error.
func TestAgain(t *testing.T) {
	good := "BNSI\x02" + one(3, "a") + one(4, "b")
	for range 3 {
		for _, s := range []string{good, "BNSI\x02" + one(4, "b"), "BNSI\x02" + one(3, "a") + "\x00", "BNSI", "", "BNSI\x02" + one(4, "") + one(3, ""), good} {
			check(t, s)
		}
		if s, err := chunk.Join(256, nil); s != "" || err != api.ErrArg {
			t.Errorf("Join: %q, %d", s, err)
		}
		if s, err := chunk.Join(2, []api.Chunk{{Kind: 3, Body: "a"}, {Kind: 4, Body: "b"}}); s != good || err != api.OK {
			t.Errorf("Join: %q, %d", s, err)
		}
	}
}
