package word_test

import (
	"math"
	"strings"
	"testing"
	"unicode/utf8"

	"bonsai/api"
	"bonsai/pack"
	"bonsai/word"
)

// edges are bytes at each end of all that a sign's byte may be, and those beside them.
var edges = []byte{0, 97, 127, 128, 129, 143, 144, 159, 160, 191, 192, 193, 194, 223, 224, 225, 236, 237, 238, 239, 240, 241, 243, 244, 245, 247, 248, 255}

// texts goes by all texts of up to two bytes, all longer ones of up to four bytes at an edge, and some others.
func texts(yield func(string) bool) {
	for _, s := range []string{"", "hello", "aä€b", "\U0001f600é", "日本語\x80", "é\xe2\x82", strings.Repeat("é", 50) + "\xff"} {
		if !yield(s) {
			return
		}
	}
	for a := range 256 {
		if !yield(string([]byte{byte(a)})) {
			return
		}
		for b := range 256 {
			if !yield(string([]byte{byte(a), byte(b)})) {
				return
			}
		}
	}
	for _, a := range edges {
		for _, b := range edges {
			for _, c := range edges {
				if !yield(string([]byte{a, b, c})) {
					return
				}
				for _, d := range edges {
					if !yield(string([]byte{a, b, c, d})) {
						return
					}
				}
			}
		}
	}
}

// part tells how many bytes of s are signs, from its begin on, and how many signs these are.
func part(s string) (int, int) {
	end, count := 0, 0
	for end < len(s) {
		r, size := utf8.DecodeRuneInString(s[end:])
		if r == utf8.RuneError && size == 1 {
			break
		}
		end, count = end+size, count+1
	}
	return end, count
}

// P4.1: signs, by the document's words: each range of each byte, at its ends and one beside them.
func TestSigns(t *testing.T) {
	for _, s := range []string{
		"\x00", "\x7f", "\xc2\x80", "\xc2\xbf", "\xdf\x80", "\xdf\xbf",
		"\xe0\xa0\x80", "\xe0\xbf\xbf", "\xe1\x80\x80", "\xe1\xbf\xbf", "\xec\x80\x80", "\xec\xbf\xbf", "\xed\x80\x80", "\xed\x9f\xbf",
		"\xee\x80\x80", "\xee\xbf\xbf", "\xef\x80\x80", "\xef\xbf\xbf",
		"\xf0\x90\x80\x80", "\xf0\xbf\xbf\xbf", "\xf1\x80\x80\x80", "\xf1\xbf\xbf\xbf", "\xf3\x80\x80\x80", "\xf3\xbf\xbf\xbf", "\xf4\x80\x80\x80", "\xf4\x8f\xbf\xbf",
	} {
		if n, is := word.Count(s); n != 1 || !is {
			t.Errorf("%q: %d signs, %v", s, n, is)
		}
		for i := 1; i < len(s); i++ {
			if at, bad := word.First(s[:i]); at != 0 || !bad {
				t.Errorf("%q, cut off: %d, %v", s[:i], at, bad)
			}
		}
	}
	for _, s := range []string{
		"\x80", "\xbf", "\xc0\x80", "\xc1\xbf", "\xc2\x7f", "\xc2\xc0", "\xdf\x7f", "\xdf\xc0",
		"\xe0\x9f\xbf", "\xe0\xc0\x80", "\xe0\xa0\x7f", "\xe0\xa0\xc0", "\xe1\x7f\x80", "\xe1\xc0\x80", "\xe1\x80\x7f", "\xe1\x80\xc0",
		"\xed\x7f\x80", "\xed\xa0\x80", "\xed\xbf\xbf", "\xed\x80\x7f", "\xed\x80\xc0", "\xef\x7f\x80", "\xef\xbf\xc0",
		"\xf0\x8f\xbf\xbf", "\xf0\xc0\x80\x80", "\xf0\x90\x7f\x80", "\xf0\x90\x80\xc0", "\xf1\x7f\x80\x80", "\xf1\x80\xc0\x80", "\xf3\x80\x80\x7f",
		"\xf4\x7f\x80\x80", "\xf4\x90\x80\x80", "\xf4\x80\x80\xc0", "\xf5\x80\x80\x80", "\xf8\x88\x80\x80\x80", "\xff",
	} {
		if at, bad := word.First(s); at != 0 || !bad {
			t.Errorf("%q: %d, %v", s, at, bad)
		}
	}
}

// P4.1: First.
func TestFirst(t *testing.T) {
	for i, c := range []struct {
		s   string
		at  int
		bad bool
	}{
		{"", 0, false}, {"abc", 0, false}, {"a\xff", 1, true}, {"\xff", 0, true}, {"\xffa", 0, true}, {"é\x80", 2, true},
		{"aé€\U00010000", 0, false}, {"aé€\U00010000\x80", 10, true}, {"aé€\xf0\x90\x80", 6, true}, {"a\xc3", 1, true}, {"a\xc3b\xff", 1, true}, {"€\xe2\x82a", 3, true},
	} {
		if at, bad := word.First(c.s); at != c.at || bad != c.bad {
			t.Errorf("case %d: First of %q: %d, %v", i, c.s, at, bad)
		}
	}
	for s := range texts {
		want, _ := part(s)
		bad := want < len(s)
		if !bad {
			want = 0
		}
		if at, is := word.First(s); at != want || is != bad {
			t.Fatalf("First of %q: %d, %v", s, at, is)
		}
	}
}

// P4.1: Valid and Count.
func TestValid(t *testing.T) {
	for i, c := range []struct {
		s  string
		n  int
		is bool
	}{
		{"", 0, true}, {"a", 1, true}, {"aé€\U00010000", 4, true}, {"\u0000\uffff\U0010ffff", 3, true}, {"aé€\xff", 0, false}, {"\xffaé", 0, false},
	} {
		if n, is := word.Count(c.s); n != c.n || is != c.is || word.Valid(c.s) != c.is {
			t.Errorf("case %d: Count of %q: %d, %v", i, c.s, n, is)
		}
	}
	for s := range texts {
		end, want := part(s)
		valid := end == len(s)
		if !valid {
			want = 0
		}
		if n, is := word.Count(s); n != want || is != valid || word.Valid(s) != valid {
			t.Fatalf("Count of %q: %d, %v; Valid %v", s, n, is, word.Valid(s))
		}
	}
}

// P4.2: Cut.
func TestCut(t *testing.T) {
	for i, c := range []struct {
		s    string
		most int
		want string
	}{
		{"", 0, ""}, {"", -1, ""}, {"", 5, ""}, {"abc", 2, "ab"}, {"abc", 3, "abc"}, {"abc", 4, "abc"}, {"abc", math.MaxInt, "abc"},
		{"abc", 0, ""}, {"abc", -1, ""}, {"abc", math.MinInt, ""},
		{"é", 1, ""}, {"é", 2, "é"}, {"a€", 3, "a"}, {"a€", 4, "a€"}, {"\U00010000", 3, ""}, {"\U00010000", 4, "\U00010000"},
		{"a\xffb", 3, "a"}, {"a\xffb", 1, "a"}, {"\xffab", 3, ""}, {"a\xc3", 2, "a"}, {"ab\xe2\x82c", 9, "ab"},
	} {
		if s := word.Cut(c.s, c.most); s != c.want {
			t.Errorf("case %d: Cut of %q: %q, not %q", i, c.s, s, c.want)
		}
	}
	for s := range texts {
		for most := -1; most < len(s)+2; most++ {
			want := ""
			for n := 0; n <= len(s) && n <= most; n++ {
				if utf8.ValidString(s[:n]) {
					want = s[:n]
				}
			}
			if got := word.Cut(s, most); got != want {
				t.Fatalf("Cut of %q, %d: %q, not %q", s, most, got, want)
			}
		}
	}
}

// P4.3: Put.
func TestPut(t *testing.T) {
	for s, want := range map[string]string{
		"": "\x00", "a": "\x01a", "é": "\x02é", "\xff": "\x01\xff",
		strings.Repeat("a", 127): "\x7f" + strings.Repeat("a", 127), strings.Repeat("€", 100): "\xac\x02" + strings.Repeat("€", 100),
	} {
		if got := word.Put(s); got != want {
			t.Errorf("Put of %q: %q, not %q", s, got, want)
		}
	}
}

// P4.3: Take, and, where several errors apply, the first one of the list.
func TestTake(t *testing.T) {
	long := strings.Repeat("€", 100)
	full := strings.Repeat("\xff", 9)
	for i, c := range []struct {
		s        string
		at, most int
		want     string
		to       int
		err      api.Errno
	}{
		{"\x00", 0, 0, "", 1, api.OK}, {"\x02hi", 0, 2, "hi", 3, api.OK}, {"\x02hi!", 0, 9, "hi", 3, api.OK}, {"ab\x02hi\xff", 2, 2, "hi", 5, api.OK},
		{"a\x00", 1, 0, "", 2, api.OK}, {"\xac\x02" + long + "\xff", 0, 300, long, 302, api.OK}, {"\xff\x02é", 1, math.MaxInt, "é", 4, api.OK}, {"\x01a", 0, math.MaxInt, "a", 2, api.OK},
		{"\x02hi", -1, 2, "", 0, api.ErrArg}, {"\x02hi", 4, 2, "", 0, api.ErrArg}, {"\x02hi", math.MaxInt, 2, "", 0, api.ErrArg}, {"\x02hi", math.MinInt, -1, "", 0, api.ErrArg}, {"", 1, -1, "", 0, api.ErrArg},
		{"", 0, 2, "", 0, api.ErrCut}, {"\x02hi", 3, -1, "", 0, api.ErrCut}, {"\x80", 0, -1, "", 0, api.ErrCut},
		{"\x82\x00hi", 0, 2, "", 0, api.ErrLong}, {"\x82\x00", 0, -1, "", 0, api.ErrLong}, {full + "\x02", 0, 9, "", 0, api.ErrLong},
		{"\x03hi!", 0, 2, "", 0, api.ErrBig}, {"\x00", 0, -1, "", 0, api.ErrBig}, {"\x00", 0, math.MinInt, "", 0, api.ErrBig}, {"\x03hi", 0, 2, "", 0, api.ErrBig}, {"\x02\xff\xff", 0, 1, "", 0, api.ErrBig},
		{full + "\x01", 0, math.MaxInt, "", 0, api.ErrBig}, {full + "\x01", 0, -1, "", 0, api.ErrBig}, {"\x80\x80\x80\x80\x80\x80\x80\x80\x80\x01", 0, math.MaxInt, "", 0, api.ErrBig},
		{"\x03hi", 0, 3, "", 0, api.ErrCut}, {"\x02\xff", 0, 2, "", 0, api.ErrCut}, {full[:8] + "\x7f", 0, math.MaxInt, "", 0, api.ErrCut},
		{"\x01\xff", 0, 1, "", 0, api.ErrText}, {"\x01é", 0, 9, "", 0, api.ErrText}, {"a\x03hi\x80", 1, 3, "", 0, api.ErrText}, {"\x03\xed\xa0\x80", 0, 3, "", 0, api.ErrText},
	} {
		if s, to, err := word.Take(c.s, c.at, c.most); s != c.want || to != c.to || err != c.err {
			t.Errorf("case %d: Take of %q: %q, %d, error %d", i, c.s, s, to, err)
		}
	}
}

// P4.3, P4.4: what is put is taken, where it is valid, whatever stands ahead and behind.
func TestRound(t *testing.T) {
	for s := range texts {
		for _, around := range [][2]string{{"", ""}, {"\x05ab", "\xff"}} {
			all := around[0] + word.Put(s) + around[1]
			got, to, err := word.Take(all, len(around[0]), len(s))
			switch {
			case !utf8.ValidString(s):
				if got != "" || to != 0 || err != api.ErrText {
					t.Fatalf("Take of %q: %q, %d, error %d", s, got, to, err)
				}
			case got != s || to != len(all)-len(around[1]) || err != api.OK:
				t.Fatalf("Take of %q: %q, %d, error %d", s, got, to, err)
			}
		}
	}
}

// P4.4: texts are taken one behind the other; of a cut one none is.
func TestRow(t *testing.T) {
	l := []string{"", "a", "é", strings.Repeat("€", 5000), "", "\U0010ffff"}
	all := ""
	for _, s := range l {
		all += word.Put(s)
	}
	at := 0
	for _, s := range l {
		got, to, err := word.Take(all, at, len(s))
		if got != s || to != at+len(pack.Put(uint64(len(s))))+len(s) || err != api.OK {
			t.Fatalf("Take at %d: %q, %d, error %d", at, got, to, err)
		}
		if s, to, err := word.Take(all[:to-1], at, len(s)); s != "" || to != 0 || err != api.ErrCut {
			t.Fatalf("Take at %d, a byte too few: %q, %d, error %d", at, s, to, err)
		}
		at = to
	}
	if at != len(all) {
		t.Errorf("%d bytes taken of %d", at, len(all))
	}
}

// P4.4: parted between signs, a text is valid just if both parts are.
func TestParts(t *testing.T) {
	for s := range texts {
		for i := range len(s) + 1 {
			// Where the first part is signs, it ends between them.
			if a, b := word.Valid(s[:i]), word.Valid(s[i:]); a && b != word.Valid(s) || word.Valid(s) && a != b {
				t.Fatalf("%q, %q: %v, %v", s[:i], s[i:], a, b)
			}
		}
	}
}
