package dict_test

import (
	"encoding/binary"
	"fmt"
	"math"
	"slices"
	"strings"
	"testing"
	"unicode/utf8"

	"bonsai/api"
	"bonsai/dict"
	"bonsai/pack"
	"bonsai/runs"
)

// column is a list of texts, its words, their places, and what they are as bytes.
type column struct {
	l     []string
	words []string
	at    []uint64
	s     string
}

// columns are what the document's words make by hand of some lists.
func columns() []column {
	long := strings.Repeat("y", 300)
	return []column{
		{nil, nil, nil, "\x00"},
		{[]string{}, []string{}, []uint64{}, "\x00"},
		{[]string{""}, []string{""}, []uint64{0}, "\x01\x00\x00\x01"},
		{[]string{"a"}, []string{"a"}, []uint64{0}, "\x01\x01a\x00\x01"},
		{[]string{"", ""}, []string{""}, []uint64{0, 0}, "\x01\x00\x00\x02"},
		{[]string{"b", "a", "b"}, []string{"b", "a"}, []uint64{0, 1, 0}, "\x02\x01b\x01a\x00\x01\x01\x01\x00\x01"},
		{[]string{"a", "b"}, []string{"a", "b"}, []uint64{0, 1}, "\x02\x01a\x01b\x00\x01\x01\x01"},
		{[]string{"a", "a", "", "ab", "a"}, []string{"a", "", "ab"}, []uint64{0, 0, 1, 2, 0}, "\x03\x01a\x00\x02ab\x00\x02\x01\x01\x02\x01\x00\x01"},
		{[]string{"ab", "a", "b"}, []string{"ab", "a", "b"}, []uint64{0, 1, 2}, "\x03\x02ab\x01a\x01b\x00\x01\x01\x01\x02\x01"},
		{[]string{"ä", "a\u0308", "Ä"}, []string{"ä", "a\u0308", "Ä"}, []uint64{0, 1, 2}, "\x03\x02\xc3\xa4\x03a\xcc\x88\x02\xc3\x84\x00\x01\x01\x01\x02\x01"},
		{[]string{"\x00", "\x00\x00", "\x00"}, []string{"\x00", "\x00\x00"}, []uint64{0, 1, 0}, "\x02\x01\x00\x02\x00\x00\x00\x01\x01\x01\x00\x01"},
		{[]string{"\U00010000", "\U00010000"}, []string{"\U00010000"}, []uint64{0, 0}, "\x01\x04\xf0\x90\x80\x80\x00\x02"},
		{[]string{long}, []string{long}, []uint64{0}, "\x01\xac\x02" + long + "\x00\x01"},
		{slices.Repeat([]string{"x"}, 4096), []string{"x"}, make([]uint64, 4096), "\x01\x01x\x00\x80\x20"},
	}
}

// some are lists of texts that are no UTF-8: they are told, but never read back.
func some() []column {
	return []column{
		{[]string{"\xff"}, []string{"\xff"}, []uint64{0}, "\x01\x01\xff\x00\x01"},
		{[]string{"\xff", "a", "\xfe", "\xff"}, []string{"\xff", "a", "\xfe"}, []uint64{0, 1, 2, 0}, "\x03\x01\xff\x01a\x01\xfe\x00\x01\x01\x01\x02\x01\x00\x01"},
		{[]string{"\xc3", "\xa4", "\xc3\xa4"}, []string{"\xc3", "\xa4", "\xc3\xa4"}, []uint64{0, 1, 2}, "\x03\x01\xc3\x01\xa4\x02\xc3\xa4\x00\x01\x01\x01\x02\x01"},
		{[]string{"\xef\xbf\xbd", "\xff", "\xfe"}, []string{"\xef\xbf\xbd", "\xff", "\xfe"}, []uint64{0, 1, 2}, "\x03\x03\xef\xbf\xbd\x01\xff\x01\xfe\x00\x01\x01\x01\x02\x01"},
	}
}

// lists goes by all lists of up to five texts of four, and by some longer ones.
func lists(yield func([]string) bool) {
	short := [][]string{nil}
	for begin := 0; len(short[begin]) < 5; begin++ {
		for _, text := range []string{"", "a", "b", "ä"} {
			short = append(short, append(slices.Clone(short[begin]), text))
		}
	}
	for _, l := range short {
		if !yield(l) {
			return
		}
	}
	u := uint64(0x9e3779b97f4a7c15)
	next := func() uint64 {
		u = u*6364136223846793005 + 1442695040888963407
		return u ^ u>>29
	}
	for range 100 {
		var l []string
		for range next() % 200 {
			text := strings.Repeat("é", int(next()%3)) + fmt.Sprint(next()%(1<<(next()%9)))
			l = append(l, slices.Repeat([]string{text}, int(next()%4))...)
		}
		if !yield(l) {
			return
		}
	}
}

// parts tells by the document's words what words of l there are, and where; each is looked for among all ahead of it.
func parts(l []string) ([]string, []uint64) {
	var words []string
	var at []uint64
	for _, text := range l {
		place := slices.Index(words, text)
		if place < 0 {
			place, words = len(words), append(words, text)
		}
		at = append(at, uint64(place))
	}
	return words, at
}

// bytes tells by the document's words what words and places are as bytes.
func bytes(words []string, at []uint64) string {
	b := binary.AppendUvarint(nil, uint64(len(words)))
	for _, text := range words {
		b = binary.AppendUvarint(b, uint64(len(text)))
		b = append(b, text...)
	}
	for i, end := 0, 0; i < len(at); i = end {
		for end = i; end < len(at) && at[end] == at[i]; end++ {
		}
		b = binary.AppendUvarint(b, at[i])
		b = binary.AppendUvarint(b, uint64(end-i))
	}
	return string(b)
}

// longest tells how many bytes the longest text of l has.
func longest(l []string) int {
	most := 0
	for _, text := range l {
		most = max(most, len(text))
	}
	return most
}

// P8.1: Words, and May of them.
func TestWords(t *testing.T) {
	for i, c := range slices.Concat(columns(), some()) {
		if words, at := dict.Words(c.l); !slices.Equal(words, c.words) || !slices.Equal(at, c.at) {
			t.Errorf("case %d: %q, %v, not %q, %v", i, words, at, c.words, c.at)
		}
		if !dict.May(c.words, c.at) {
			t.Errorf("case %d: %q, %v may not be", i, c.words, c.at)
		}
	}
	for l := range lists {
		wantWords, wantAt := parts(l)
		words, at := dict.Words(l)
		if !slices.Equal(words, wantWords) || !slices.Equal(at, wantAt) || !dict.May(words, at) {
			t.Fatalf("Words of %q: %q, %v", l, words, at)
		}
	}
}

// checkPick holds what Pick tells against l and is.
func checkPick(t *testing.T, words []string, at []uint64, l []string, is bool) {
	t.Helper()
	if got, ok := dict.Pick(words, at); !slices.Equal(got, l) || ok != is {
		t.Errorf("Pick of %q, %v: %q, %v, not %q, %v", words, at, got, ok, l, is)
	}
}

// P8.1: Pick, of Words, and of other ones.
func TestPick(t *testing.T) {
	for _, c := range slices.Concat(columns(), some()) {
		checkPick(t, c.words, c.at, c.l, true)
	}
	for l := range lists {
		words, at := parts(l)
		checkPick(t, words, at, l, true)
	}
	for _, c := range []struct {
		words []string
		at    []uint64
		l     []string
		is    bool
	}{
		{[]string{"a"}, nil, nil, true},
		{[]string{"a", "b"}, []uint64{1}, []string{"b"}, true},
		{[]string{"a", "b"}, []uint64{1, 1, 0}, []string{"b", "b", "a"}, true},
		{[]string{"a", "a", "\xff"}, []uint64{2, 1, 0}, []string{"\xff", "a", "a"}, true},
		{nil, []uint64{0}, nil, false},
		{nil, []uint64{math.MaxUint64}, nil, false},
		{[]string{"a"}, []uint64{1}, nil, false},
		{[]string{"a", "b"}, []uint64{0, 2}, nil, false},
		{[]string{"a", "b"}, []uint64{2, 0}, nil, false},
		{[]string{"a", "b"}, []uint64{0, 1, 3, 0}, nil, false},
		{[]string{"a", "b"}, []uint64{0, 1 << 63}, nil, false},
		{[]string{"a", "b"}, []uint64{1<<63 + 1}, nil, false},
		{[]string{"a", "b"}, []uint64{1 << 32}, nil, false},
		{[]string{"a", "b"}, []uint64{math.MaxUint64}, nil, false},
	} {
		checkPick(t, c.words, c.at, c.l, c.is)
	}
}

// P8.1: May of all short lists of words and of places: some are Words of a list, and no others.
func TestMayAll(t *testing.T) {
	texts := []string{"", "a", "b"}
	words := [][]string{nil}
	for begin := 0; len(words[begin]) < 4; begin++ {
		for _, text := range texts {
			words = append(words, append(slices.Clone(words[begin]), text))
		}
	}
	places := [][]uint64{nil}
	for begin := 0; len(places[begin]) < 5; begin++ {
		for place := range uint64(4) {
			places = append(places, append(slices.Clone(places[begin]), place))
		}
	}
	known := map[string]bool{}
	for l := range lists {
		if len(l) <= 5 && !slices.Contains(l, "ä") {
			w, at := parts(l)
			known[fmt.Sprintf("%q, %v", w, at)] = true
		}
	}
	good := 0
	for _, w := range words {
		for _, at := range places {
			want := known[fmt.Sprintf("%q, %v", w, at)]
			if may := dict.May(w, at); may != want {
				t.Fatalf("May of %q, %v: %v", w, at, may)
			}
			if want {
				good++
			}
		}
	}
	if good < 100 {
		t.Errorf("no more than %d may be", good)
	}
}

// P8.1: May of places far off, and of words that stand twice far from each other.
func TestMayWrong(t *testing.T) {
	for _, c := range []struct {
		words []string
		at    []uint64
	}{
		{nil, []uint64{math.MaxUint64}},
		{[]string{"a"}, []uint64{math.MaxUint64}},
		{[]string{"a"}, []uint64{0, math.MaxUint64}},
		{[]string{"a"}, []uint64{0, 1 << 63}},
		{[]string{"a"}, []uint64{1 << 32}},
		{[]string{"a", "b"}, []uint64{0, 1<<32 + 1}},
		{[]string{"a", "b", "c", "d", "a"}, []uint64{0, 1, 2, 3, 4}},
		{[]string{"\xff", "\xfe", "\xff"}, []uint64{0, 1, 2}},
	} {
		if dict.May(c.words, c.at) {
			t.Errorf("%q, %v may be", c.words, c.at)
		}
	}
}

// P8.2: Encode.
func TestEncode(t *testing.T) {
	for i, c := range slices.Concat(columns(), some()) {
		if s := dict.Encode(c.l); s != c.s {
			t.Errorf("case %d: %q, not %q", i, s, c.s)
		}
	}
	for l := range lists {
		if s := dict.Encode(l); s != bytes(parts(l)) {
			t.Fatalf("Encode of %q: %q", l, s)
		}
	}
	if s := dict.Encode(slices.Repeat([]string{"x"}, 5000)); s != "\x01\x01x\x00\x88\x27" {
		t.Errorf("Encode of 5000 times the same: %q", s)
	}
}

// checkDecode holds what Decode tells against l and e.
func checkDecode(t *testing.T, s string, n int, most int, l []string, e api.Errno) {
	t.Helper()
	if got, err := dict.Decode(s, n, most); !slices.Equal(got, l) || err != e {
		t.Errorf("Decode of %q, %d, %d: %q, %d, not %q, %d", s, n, most, got, err, l, e)
	}
}

// P8.3, P8.4: Decode of what Encode told, and of what has a byte too many or too few.
func TestDecode(t *testing.T) {
	for _, c := range columns() {
		for _, most := range []int{longest(c.l), longest(c.l) + 1, math.MaxInt} {
			checkDecode(t, c.s, len(c.l), most, c.l, api.OK)
		}
	}
	for l := range lists {
		s := dict.Encode(l)
		checkDecode(t, s, len(l), longest(l), l, api.OK)
		checkDecode(t, s, len(l)+1, 64, nil, api.ErrForm)
		checkDecode(t, s+"\x80", len(l), 64, nil, api.ErrCut)
		checkDecode(t, s+"\x00\x01", len(l), 64, nil, api.ErrForm)
		checkDecode(t, s[:len(s)-1], len(l), 64, nil, api.ErrCut)
		if len(l) > 0 {
			checkDecode(t, s, len(l), longest(l)-1, nil, api.ErrBig)
		}
	}
	for _, most := range []int{-1, math.MinInt} {
		checkDecode(t, "\x00", 0, most, nil, api.OK)
	}
}

// P8.3: as many texts as may be, all unlike.
func TestDecodeMost(t *testing.T) {
	var l []string
	for i := range 4096 {
		l = append(l, fmt.Sprint(i))
	}
	checkDecode(t, dict.Encode(l), 4096, 4, l, api.OK)
	l = append(l, "more")
	checkDecode(t, dict.Encode(l), 4097, 4, nil, api.ErrBig)
	checkDecode(t, dict.Encode(l), 4096, 4, nil, api.ErrBig)
}

// P8.3, R2: Decode of what is wrong, the first error ahead of all others.
func TestDecodeWrong(t *testing.T) {
	const top = "\xff\xff\xff\xff\xff\xff\xff\xff\xff\x01"
	for _, c := range []struct {
		s       string
		n, most int
		e       api.Errno
	}{
		{"", -1, 9, api.ErrArg}, {"", math.MinInt, 9, api.ErrArg}, {"\x00", -1, 9, api.ErrArg}, {"\x80\x00", -1, -1, api.ErrArg}, {"\x01\x01a\x00\x01", -1, 9, api.ErrArg},
		{"", 4097, 9, api.ErrBig}, {"", math.MaxInt, 9, api.ErrBig}, {"\x80", 4097, 9, api.ErrBig}, {"\x80\x00", 1 << 62, 9, api.ErrBig}, {"\x01\x01a\x00\x81\x20", 4097, 9, api.ErrBig},
		{"", 0, 9, api.ErrCut}, {"", 4096, 9, api.ErrCut}, {"\x80", 0, 9, api.ErrCut}, {"\xff\xff", 1, -1, api.ErrCut},
		{"\x80\x00", 0, 9, api.ErrLong}, {"\x81\x00\x01a\x00\x01", 1, 9, api.ErrLong}, {"\xff\xff\xff\xff\xff\xff\xff\xff\xff\x02", 1, 9, api.ErrLong},
		{"\x01", 0, 9, api.ErrBig}, {"\x01\x80", 0, 9, api.ErrBig}, {"\x02", 1, 9, api.ErrBig}, {"\x02\x01a\x01b\x00\x01\x01\x01", 1, 9, api.ErrBig}, {"\x02\x01\xff", 1, 9, api.ErrBig},
		{top, 1, 9, api.ErrBig}, {top, 4096, 9, api.ErrBig}, {"\x81\x20", 4096, 9, api.ErrBig}, {"\xff\xff\xff\xff\xff\xff\xff\xff\x7f", 4096, 9, api.ErrBig}, {"\x80\x80\x80\x80\x80\x80\x80\x80\x80\x01", 4096, 9, api.ErrBig},
		{"\x80\x80\x80\x80\x10", 0, 9, api.ErrBig}, {"\x80\x80\x80\x80\x10", 4096, 9, api.ErrBig},
		// A word that can't be taken.
		{"\x01", 1, 9, api.ErrCut}, {"\x01", 1, -1, api.ErrCut}, {"\x01\x80", 1, 9, api.ErrCut}, {"\x01\x81\x00a\x00\x01", 1, 9, api.ErrLong}, {"\x01\x81\x00a\x00\x01", 1, -1, api.ErrLong},
		{"\x01\x02ab\x00\x01", 1, 1, api.ErrBig}, {"\x01\x02a", 1, 1, api.ErrBig}, {"\x01\x00\x00\x01", 1, -1, api.ErrBig}, {"\x01\x01a\x00\x01", 1, 0, api.ErrBig}, {"\x01\x02\xff\xff", 1, 1, api.ErrBig},
		{"\x01" + top, 1, 9, api.ErrBig}, {"\x01" + top, 1, math.MaxInt, api.ErrBig}, {"\x01\xff\xff\xff\xff\xff\xff\xff\xff\x7f", 1, math.MaxInt, api.ErrCut},
		{"\x01\x02a", 1, 9, api.ErrCut}, {"\x01\x02\xff", 1, 9, api.ErrCut}, {"\x01\x03a\x00\x01", 1, 9, api.ErrForm}, {"\x01\x05a\x00\x01", 1, 9, api.ErrCut},
		{"\x01\x01\xff\x00\x01", 1, 9, api.ErrText}, {"\x01\x01\x80", 1, 9, api.ErrText}, {"\x01\x02\xc0\x80\x00\x01", 1, 9, api.ErrText}, {"\x01\x03\xed\xa0\x80\x00\x01", 1, 9, api.ErrText}, {"\x01\x04\xf4\x90\x80\x80\x00\x01", 1, 9, api.ErrText},
		// The first word that can't be taken, and words ahead of places.
		{"\x02\x01a", 2, 9, api.ErrCut}, {"\x02\x01a\x81\x00b\x00\x01\x01\x01", 2, 9, api.ErrLong}, {"\x02\x01a\x02bc\x00\x01\x01\x01", 2, 1, api.ErrBig}, {"\x02\x01a\x01\xff\x00\x01\x01\x01", 2, 9, api.ErrText},
		{"\x02\x01\xff\x80", 2, 9, api.ErrText}, {"\x02\x81\x00a\x01\xff", 2, 9, api.ErrLong}, {"\x02\x02ab\x01\xff", 2, 1, api.ErrBig}, {"\x02\x01\xff\x02ab", 2, 1, api.ErrText},
		{"\x02\x01a\x01a\x80", 2, 9, api.ErrCut}, {"\x02\x01a\x01a\x00\x00", 2, 9, api.ErrForm}, {"\x01\x01\xff\x80", 1, 9, api.ErrText}, {"\x02\x01a\x01a\x80\x00", 2, 9, api.ErrLong},
		// Places that can't be read.
		{"\x01\x01a", 1, 9, api.ErrForm}, {"\x01\x01a\x00", 1, 9, api.ErrCut}, {"\x01\x01a\x00\x80", 1, 9, api.ErrCut}, {"\x01\x01a\x80\x00\x01", 1, 9, api.ErrLong}, {"\x01\x01a\x00\x81\x00", 1, 9, api.ErrLong},
		{"\x01\x01a\x00\x00", 1, 9, api.ErrForm}, {"\x01\x01a\x00\x02", 1, 9, api.ErrForm}, {"\x01\x01a\x00\x01", 2, 9, api.ErrForm}, {"\x01\x01a\x00\x01\x00\x01", 2, 9, api.ErrForm}, {"\x01\x01a\x00\x01\x80", 1, 9, api.ErrCut},
		{"\x01\x01a\x05\x01\x80", 2, 9, api.ErrCut}, {"\x01\x01a\x05\x01\x80\x00", 2, 9, api.ErrLong}, {"\x00\x80", 0, 9, api.ErrCut}, {"\x00\x80\x00", 0, 9, api.ErrLong}, {"\x00\x00", 0, 9, api.ErrCut},
		{"\x00\x00\x01", 0, 9, api.ErrForm}, {"\x00\x00\x00", 0, 9, api.ErrForm}, {"\x00", 1, 9, api.ErrForm}, {"\x00", 4096, -1, api.ErrForm},
		// Words and places that are no list's.
		{"\x00\x00\x01", 1, 9, api.ErrForm}, {"\x01\x01a", 0, 9, api.ErrBig}, {"\x01\x01a\x01\x01", 1, 9, api.ErrForm}, {"\x01\x01a" + top + "\x01", 1, 9, api.ErrForm}, {"\x01\x01a\x00\x01" + top + "\x01", 2, 9, api.ErrForm},
		{"\x02\x01a\x01b\x01\x01\x00\x01", 2, 9, api.ErrForm}, {"\x02\x01a\x01a\x00\x01\x01\x01", 2, 9, api.ErrForm}, {"\x02\x00\x00\x00\x01\x01\x01", 2, 9, api.ErrForm}, {"\x02\x01a\x01b\x00\x02", 2, 9, api.ErrForm},
		{"\x02\x01a\x01b\x01\x02", 2, 9, api.ErrForm}, {"\x02\x01a\x01b\x00\x01\x02\x01", 2, 9, api.ErrForm}, {"\x03\x01a\x01b\x01c\x00\x01\x02\x01\x01\x01", 3, 9, api.ErrForm}, {"\x03\x01a\x01b\x01a\x00\x01\x01\x01\x02\x01", 3, 9, api.ErrForm},
	} {
		checkDecode(t, c.s, c.n, c.most, nil, c.e)
	}
}

// decode tells by the document's words what Decode is to tell.
func decode(s string, n int, most int) ([]string, api.Errno) {
	switch {
	case n < 0:
		return nil, api.ErrArg
	case n > 4096:
		return nil, api.ErrBig
	}
	r := pack.New(s)
	count := r.Num()
	if r.Err() != api.OK {
		return nil, r.Err()
	}
	if count > 4096 || int(count) > n {
		return nil, api.ErrBig
	}
	var words []string
	for range int(count) {
		size := r.Num()
		switch {
		case r.Err() != api.OK:
			return nil, r.Err()
		case size > math.MaxInt, int(size) > most:
			return nil, api.ErrBig
		}
		text := r.Take(int(size))
		switch {
		case r.Err() != api.OK:
			return nil, r.Err()
		case !utf8.ValidString(text):
			return nil, api.ErrText
		}
		words = append(words, text)
	}
	at, err := runs.Decode(r.Take(r.Left()), n)
	if err != api.OK {
		return nil, err
	}
	var list []string
	for _, place := range at {
		if place >= count {
			return nil, api.ErrForm
		}
		list = append(list, words[place])
	}
	if w, a := parts(list); !slices.Equal(w, words) || !slices.Equal(a, at) {
		return nil, api.ErrForm
	}
	return list, api.OK
}

// checkBytes holds what Decode tells of s against what the document's words tell, and whether a list's bytes are s.
func checkBytes(t *testing.T, s string, n int, most int) bool {
	t.Helper()
	l, e := decode(s, n, most)
	checkDecode(t, s, n, most, l, e)
	if e != api.OK {
		return false
	}
	if len(l) != n || dict.Encode(l) != s {
		t.Errorf("%q is %q, of which Encode is %q", s, l, dict.Encode(l))
	}
	return true
}

// P8.3, P8.4: all texts of up to six bytes of some: each is no list, or just one's.
func TestDecodeAll(t *testing.T) {
	texts := []string{""}
	for begin := 0; len(texts[begin]) < 6; begin++ {
		for _, b := range []byte{0, 1, 2, 'a', 128, 255} {
			texts = append(texts, texts[begin]+string([]byte{b}))
		}
	}
	good := 0
	for _, s := range texts {
		for _, n := range []int{-1, 0, 1, 2, 97, 4097} {
			for _, most := range []int{-1, 0, 1, 9} {
				if checkBytes(t, s, n, most) {
					good++
				}
			}
		}
	}
	if good < 20 {
		t.Errorf("no more than %d texts are a list's", good)
	}
}

// P8.3, P8.4: the bytes of lists, spoilt at one place each: they are no list's, or just another one's.
func TestDecodeSpoilt(t *testing.T) {
	good := 0
	for l := range lists {
		if len(l) > 3 {
			continue
		}
		s := dict.Encode(l)
		for i := range len(s) + 1 {
			spoilt := []string{s[:i]}
			for _, b := range []byte{0, 1, 2, 3, 'a', 'b', 128, 0xa4, 0xc3, 255} {
				spoilt = append(spoilt, s[:i]+string([]byte{b})+s[i:])
				if i < len(s) {
					spoilt = append(spoilt, s[:i]+string([]byte{b})+s[i+1:], s[:i]+s[i+1:])
				}
			}
			for _, other := range spoilt {
				for n := range 5 {
					if checkBytes(t, other, n, 2) && other != s {
						good++
					}
				}
			}
		}
	}
	if good < 50 {
		t.Errorf("no more than %d spoilt texts are a list's", good)
	}
}

// P8.4: no two lists are encoded alike, and a text is no list of another length.
func TestOne(t *testing.T) {
	seen := map[string][]string{}
	for l := range lists {
		s := dict.Encode(l)
		if other, is := seen[s]; is && !slices.Equal(other, l) {
			t.Fatalf("%q and %q are both %q", other, l, s)
		}
		seen[s] = l
		for n := range 8 {
			if _, e := dict.Decode(s, n, 64); (e == api.OK) != (n == len(l)) {
				t.Fatalf("%q, as %d texts: %d", s, n, e)
			}
		}
	}
}

// R5: what is handed in stays as it was, and what is answered is not changed by what comes then.
func TestApart(t *testing.T) {
	all := []string{"x", "b", "a", "b", "y"}
	kept := slices.Clone(all)
	part := all[1:4]
	words, at := dict.Words(part)
	s := dict.Encode(part)
	a, _ := dict.Pick(words, at)
	b, _ := dict.Decode(s, 3, 9)
	dict.May(words, at)
	if !slices.Equal(all, kept) || !slices.Equal(words, []string{"b", "a"}) || !slices.Equal(at, []uint64{0, 1, 0}) {
		t.Errorf("what was handed in is %q, %q and %v by now", all, words, at)
	}
	for i := range all {
		all[i] = ""
	}
	if !slices.Equal(words, []string{"b", "a"}) {
		t.Errorf("what was answered is %q by now", words)
	}
	clear(words)
	clear(at)
	dict.Words(all)
	dict.Pick([]string{"q"}, []uint64{0, 0, 0})
	dict.Decode("\x01\x01q\x00\x03", 3, 9)
	if want := kept[1:4]; !slices.Equal(a, want) || !slices.Equal(b, want) {
		t.Errorf("what was answered is %q and %q by now", a, b)
	}
}

// R6: what is told hangs on no earlier call, nor on the order in which a map is gone through.
func TestAgain(t *testing.T) {
	for range 20 {
		for _, c := range columns() {
			if words, at := dict.Words(c.l); !slices.Equal(words, c.words) || !slices.Equal(at, c.at) {
				t.Fatalf("%q, %v, not %q, %v", words, at, c.words, c.at)
			}
			checkDecode(t, c.s, len(c.l), longest(c.l), c.l, api.OK)
			checkDecode(t, "\x02\x01a\x01a\x00\x01\x01\x01", 2, 9, nil, api.ErrForm)
		}
	}
}
