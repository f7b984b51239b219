package name

import (
	"math/rand"
	"slices"
	"strings"
	"testing"
	"unicode/utf8"
	"unsafe"

	"gunwale/api"
)

// euro and face are runes of three, and of four bytes.
const (
	euro = "\u20ac"
	face = "\U0001f600"
)

// noRunes are texts that have bytes that are no rune's.
func noRunes() []string {
	return []string{
		"\x80", "\xbf", "\xfe", "\xff", // begin no rune
		"a\x80", "\x80a", "a\xffb", "\xe4", "\u00e4\xbf",
		"\xc3", "\xe2\x82", "\xf0\x9f\x98", "\xe2\x82a", "\xe2\u20ac", "a\xf0\x9f/", // end too early
		"\xc0\x80", "\xc0\xaf", "\xc1\xbf", "\xe0\x80\x80", "\xe0\x9f\xbf", "\xf0\x80\x80\x80", "\xf0\x8f\xbf\xbf", // too many bytes
		"\xed\xa0\x80", "\xed\xaf\xbf", "\xed\xb0\x80", "\xed\xbf\xbf", "\xed\xa0\xbd\xed\xb8\x80", // surrogates
		"\xf4\x90\x80\x80", "\xf5\x80\x80\x80", "\xf7\xbf\xbf\xbf", "\xf8\x88\x80\x80\x80", "\xfc\x84\x80\x80\x80\x80", // above 10FFFF
		"\ufffd\xff", "\xff\ufffd", "\xef\xbf", "\xef\xbf\xbd\xef\xbf",
	}
}

// shortTexts are all texts of at most n of the bytes at which UTF-8 turns.
func shortTexts(n int) []string {
	marks := "\x00\x1f ./A\x7f\x80\x8f\x90\x9f\xa0\xbd\xbf\xc0\xc1\xc2\xdf\xe0\xe1\xed\xef\xf0\xf4\xf5\xff"
	all, last := []string{""}, []string{""}
	for range n {
		var next []string
		for _, s := range last {
			for i := range len(marks) {
				next = append(next, s+marks[i:i+1])
			}
		}
		all, last = append(all, next...), next
	}
	return all
}

// wantName tells by the words of the chapter whether s, of valid UTF-8 or not, is a name.
func wantName(s string) bool {
	if !utf8.ValidString(s) || s == "." || s == ".." {
		return false
	}
	n := 0
	for _, r := range []rune(s) {
		if r < 32 || r == 47 || r == 127 {
			return false
		}
		n++
	}
	return n >= 1 && n <= 20
}

// weights are what the order of texts goes by: the runes, or of a text without runes 10FFFF, and a byte, and 1.
func weights(s string) []int {
	var l []int
	if !utf8.ValidString(s) {
		for i := range len(s) {
			l = append(l, 0x10ffff+int(s[i])+1)
		}
		return l
	}
	for _, r := range []rune(s) {
		l = append(l, int(r))
	}
	return l
}

// P1.1: runes are counted, and a text with bytes that are no rune's has none.
func TestRunes(t *testing.T) {
	for _, c := range []struct {
		s string
		n int
	}{
		{"", 0}, {"a", 1}, {"\x00", 1}, {"ab/c", 4}, {"\x7f", 1}, {"\u0080", 1}, {"\u07ff", 1}, {"\u0800", 1},
		{"\ud7ff\ue000", 2}, {"\ufffd", 1}, {"a\ufffd\ufffd", 3}, {"\uffff", 1}, {"\U00010000", 1}, {"\U0010ffff", 1},
		{"\u00e4" + euro + face, 3}, {"e\u0301", 2}, {strings.Repeat(face, 1000), 1000},
	} {
		if n, ok := Runes(c.s); n != c.n || !ok {
			t.Errorf("%q: %d, %v", c.s, n, ok)
		}
	}
	for _, s := range noRunes() {
		for _, s := range []string{s, "ab" + s, s + "ab", euro + s + face} {
			if n, ok := Runes(s); n != 0 || ok {
				t.Errorf("%q: %d, %v", s, n, ok)
			}
		}
	}
}

// P1.1: every rune is one, alone; a name has each but those that the chapter leaves out.
func TestEveryRune(t *testing.T) {
	for r := rune(0); r <= 0x10ffff; r++ {
		if r >= 0xd800 && r <= 0xdfff {
			continue
		}
		s := string(r)
		n, ok := Runes(s)
		if n != 1 || !ok {
			t.Fatalf("%x: %d, %v", r, n, ok)
		}
		want := r >= 32 && r != '/' && r != 127
		if Check("a"+s) != want || Check(s) != (want && s != ".") {
			t.Fatalf("%x: %v, %v", r, Check("a"+s), Check(s))
		}
	}
	for r := 0xd800; r <= 0xdfff; r++ {
		s := string([]byte{0xed, byte(0x80 | r>>6&0x3f), byte(0x80 | r&0x3f)})
		if n, ok := Runes(s); n != 0 || ok || Check(s) {
			t.Fatalf("%x: %d, %v, %v", r, n, ok, Check(s))
		}
	}
}

// P1.1: of all short texts, and of some longer ones, runes and names are as the words say.
func TestShortTexts(t *testing.T) {
	for _, s := range shortTexts(4) {
		want, valid := 0, utf8.ValidString(s)
		if valid {
			want = utf8.RuneCountInString(s)
		}
		if n, ok := Runes(s); n != want || ok != valid {
			t.Fatalf("%q: %d, %v", s, n, ok)
		}
		if Check(s) != wantName(s) {
			t.Fatalf("%q: %v", s, Check(s))
		}
	}
}

// P1.1: names.
func TestCheck(t *testing.T) {
	good := []string{
		"a", "A", " ", "  ", "a b", "~", "-", "\\", ":", "...", "....", ".a", "a.", "..a", "a..", ". ", "\u0080", "\ufffd",
		euro, face, "\U0010ffff", "\u2024", "\uff0f",
		strings.Repeat("x", 20), strings.Repeat("\u00e4", 20), strings.Repeat(euro, 20), strings.Repeat(face, 20), strings.Repeat(".", 20),
		strings.Repeat("a", 10) + strings.Repeat(face, 10),
	}
	for _, s := range good {
		if !Check(s) {
			t.Errorf("%q is a name", s)
		}
	}
	bad := []string{
		"", ".", "..", "/", "a/", "/a", "a/b", "\x00", "\x1f", "a\x1f", "\na", "\t", "\x7f", "a\x7f",
		strings.Repeat("x", 21), strings.Repeat(euro, 21), strings.Repeat(face, 21), strings.Repeat("x", 20) + face, strings.Repeat("x", 100000),
		strings.Repeat("x", 19) + "/", strings.Repeat("x", 20) + "\xff",
	}
	for _, s := range append(bad, noRunes()...) {
		if Check(s) {
			t.Errorf("%q is no name", s)
		}
	}
}

// P1.2: which text stands ahead, in one row, texts without runes behind all others.
func TestLess(t *testing.T) {
	row := []string{
		"", "\x00", "\x00\x00", "\x01", "/", "A", "AZ", "Z", "a", "aa", "aaa", "aab", "ab", "b", "\x7f", "\u0080", "\u00e4",
		"\u07ff", "\u0800", euro, euro + "a", euro + euro, "\ud7ff", "\ue000", "\ufffd", "\uffff", "\U00010000", face, "\U0010ffff", "\U0010ffff\U0010ffff",
		"\x00\xff", "A\xff", "a\x80", "a\xff", "\x80", "\x80\x80", "\xbf", "\xed\xa0\x80", "\xf4\x90\x80\x80", "\xff", "\xff\x00", "\xff\U0010ffff", "\xff\xff",
	}
	for i, a := range row {
		for k, b := range row {
			if Less(a, b) != (i < k) {
				t.Errorf("%q, %q: %v", a, b, Less(a, b))
			}
		}
	}
}

// P1.2, P1.4: the order is the one of the words, and of two unlike texts just one stands ahead.
func TestLessByWords(t *testing.T) {
	l := append(shortTexts(2), noRunes()...)
	r := rand.New(rand.NewSource(2))
	for range 500 {
		l = append(l, someText(r, 6))
	}
	w := make([][]int, len(l))
	for i, s := range l {
		w[i] = weights(s)
	}
	for i, a := range l {
		for k, b := range l {
			got := Less(a, b)
			if got != (slices.Compare(w[i], w[k]) < 0) {
				t.Fatalf("%q, %q: %v", a, b, got)
			}
			if a != b && got == Less(b, a) {
				t.Fatalf("%q, %q: both ways %v", a, b, got)
			}
		}
	}
}

// someText has up to n pieces of one to four bytes, some of which are no rune's.
func someText(r *rand.Rand, n int) string {
	pieces := []string{"a", "b", ".", "/", " ", "\x1f", "\x7f", "\u00e4", "\ufffd", euro, face, "\U0010ffff", "\x80", "\xe2\x82", "\xff"}
	s := ""
	for range r.Intn(n + 1) {
		s += pieces[r.Intn(len(pieces))]
	}
	return s
}

// P1.3: paths, and their names, both ways.
func TestPaths(t *testing.T) {
	long := strings.Repeat(face, 20)
	for _, c := range []struct {
		p string
		l []string
	}{
		{"/", nil},
		{"/a", []string{"a"}},
		{"/a/bc", []string{"a", "bc"}},
		{"/a/a/a", []string{"a", "a", "a"}},
		{"/ / b/...", []string{" ", " b", "..."}},
		{"/" + euro + "/\ufffd/" + face, []string{euro, "\ufffd", face}},
		{strings.Repeat("/x", 16), slices.Repeat([]string{"x"}, 16)},
		{strings.Repeat("/"+long, 16), slices.Repeat([]string{long}, 16)},
	} {
		if l, e := Split(c.p); e != api.OK || !slices.Equal(l, c.l) {
			t.Errorf("%q: %q, %v", c.p, l, e)
		}
		if p, e := Join(c.l); e != api.OK || p != c.p {
			t.Errorf("%q: %q, %v", c.l, p, e)
		}
	}
	if p, e := Join([]string{}); p != "/" || e != api.OK {
		t.Errorf("no names: %q, %v", p, e)
	}
}

// P1.3: what is no path is told by ErrName, and nothing beside it.
func TestNoPaths(t *testing.T) {
	for _, p := range []string{
		"", "a", "a/", "a/b", " /a", "//", "///", "/a/", "//a", "/a//b", "/a/b/", "/.", "/..", "/a/.", "/a/..", "/./a", "/../a",
		"/\x1f", "/a\x00", "/a/\x7f/b", "/\xff", "\xff/a", "/a/\xe2\x82/b", "/a\xed\xa0\x80", "/\xc0\xaf", "\\a",
		strings.Repeat("/x", 17), strings.Repeat("/x", 16) + "/", strings.Repeat("/x", 1000), strings.Repeat("/", 1000),
		"/" + strings.Repeat("x", 21), "/a/" + strings.Repeat(euro, 21) + "/b",
	} {
		if l, e := Split(p); len(l) != 0 || e != api.ErrName {
			t.Errorf("%q: %q, %v", p, l, e)
		}
	}
	for _, s := range noRunes() {
		if l, e := Split("/a/" + s); len(l) != 0 || e != api.ErrName {
			t.Errorf("%q: %q, %v", s, l, e)
		}
	}
}

// P1.3: what are no path's names is told by ErrName, and nothing beside it.
func TestNoNames(t *testing.T) {
	for _, l := range [][]string{
		{""}, {"", "a"}, {"a", ""}, {"."}, {"a", ".."}, {"/"}, {"a/b"}, {"a", "b/c"}, {"a\x1f"}, {"\x7f"},
		{strings.Repeat("x", 21)}, {"a", strings.Repeat(face, 21)},
		slices.Repeat([]string{"x"}, 17), slices.Repeat([]string{"x"}, 1000), append(slices.Repeat([]string{"x"}, 15), "."),
	} {
		if p, e := Join(l); p != "" || e != api.ErrName {
			t.Errorf("%q: %q, %v", l, p, e)
		}
	}
	for _, s := range noRunes() {
		if p, e := Join([]string{"a", s}); p != "" || e != api.ErrName {
			t.Errorf("%q: %q, %v", s, p, e)
		}
	}
}

// P1.4: whatever is joined is split into the same again, and whatever is split is joined to the same.
func TestThereAndBack(t *testing.T) {
	r := rand.New(rand.NewSource(1))
	joined, split := 0, 0
	for range 20000 {
		var l []string
		fits := true
		for range r.Intn(18) {
			s := "n" + strings.ReplaceAll(someText(r, 1), "/", "")
			l = append(l, s)
			fits = fits && wantName(s)
		}
		fits = fits && len(l) <= 16
		p, e := Join(l)
		if fits != (e == api.OK) {
			t.Fatalf("%q: %q, %v", l, p, e)
		}
		if fits {
			joined++
			if back, e := Split(p); e != api.OK || !slices.Equal(back, l) {
				t.Fatalf("%q: %q, %q, %v", l, p, back, e)
			}
		}
		q := "/" + someText(r, 5)
		if l, e := Split(q); e == api.OK {
			split++
			if back, e := Join(l); e != api.OK || back != q {
				t.Fatalf("%q: %q, %q, %v", q, l, back, e)
			}
		}
	}
	if joined < 100 || split < 100 {
		t.Errorf("too few were tried: %d, %d", joined, split)
	}
}

// apart tells whether two texts share no byte of memory.
func apart(a, b string) bool {
	if a == "" || b == "" {
		return true
	}
	x, y := uintptr(unsafe.Pointer(unsafe.StringData(a))), uintptr(unsafe.Pointer(unsafe.StringData(b)))
	return x+uintptr(len(a)) <= y || y+uintptr(len(b)) <= x
}

// Answers are in memory of their own, and what is handed in stays as it was, its spare room included.
func TestMemory(t *testing.T) {
	p := strings.Clone("/one/two/three")
	l, _ := Split(p)
	for i, s := range l {
		if !apart(s, p) {
			t.Errorf("name %d shares memory with its path", i)
		}
	}
	again, _ := Split(p)
	l[0] = "changed"
	if again[0] != "one" {
		t.Errorf("two answers share memory: %q", again)
	}
	room := []string{"a", "b", "spare", "room"}
	if q, _ := Join(room[:2]); q != "/a/b" {
		t.Errorf("%q", q)
	}
	if !slices.Equal(room, []string{"a", "b", "spare", "room"}) {
		t.Errorf("changed: %q", room)
	}
	one := []string{strings.Clone("one")}
	if q, _ := Join(one); !apart(q, one[0]) {
		t.Error("a path shares memory with its name")
	}
}
