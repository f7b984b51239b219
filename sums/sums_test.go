package sums

import (
	"math/rand"
	"slices"
	"strings"
	"testing"
	"unsafe"
)

// step tells by the words of the chapter what a step makes of n, and whether its highest bit was set.
func step(n uint32) (uint32, bool) {
	if n >= 0x80000000 {
		return (n-0x80000000)*2 ^ 0x04c11db7, true
	}
	return n * 2, false
}

// wantSum tells by the words of the chapter the sum of s.
func wantSum(s string) uint32 {
	n := uint32(0xffffffff)
	for _, b := range []byte(s) {
		n ^= uint32(b) * 0x1000000
		for range 8 {
			n, _ = step(n)
		}
	}
	return n
}

// wantBytes tells by the words of the chapter the bytes of n.
func wantBytes(n uint32) string {
	b := make([]byte, 4)
	for i := range 4 {
		b[3-i] = byte(n % 256)
		n /= 256
	}
	return string(b)
}

// someText has up to n bytes of any value, those at which something turns more often than others.
func someText(r *rand.Rand, n int) string {
	b := make([]byte, r.Intn(n+1))
	for i := range b {
		b[i] = byte(r.Intn(256))
		if r.Intn(2) == 0 {
			b[i] = "\x00\x01\x7f\x80\xfe\xff"[r.Intn(6)]
		}
	}
	return string(b)
}

// texts are the empty one, all of one byte, some of bytes that are alike, and some of any.
func texts() []string {
	l := []string{"", "123456789", "abcd", "gunwale", "\u00e4\u20ac\U0001f600", "\x00\x7f\x80\xff", "\xff\x80\x7f\x00"}
	for b := range 256 {
		l = append(l, string([]byte{byte(b)}))
	}
	for _, s := range []string{"\x00", "\x7f", "\x80", "\xff", "a"} {
		for n := 2; n < 40; n++ {
			l = append(l, strings.Repeat(s, n))
		}
	}
	r := rand.New(rand.NewSource(1))
	for range 300 {
		l = append(l, someText(r, 70))
	}
	return append(l, someText(r, 40000), strings.Repeat("\x00", 40000), strings.Repeat("\xff", 40000))
}

// flip is s with the bits changed that are set in pattern, whose bit of the number width-1 stands at the place at.
// Places go from the highest bit of the first byte on.
func flip(s string, at, width int, pattern uint64) string {
	b := []byte(s)
	for i := range width {
		if pattern>>(width-1-i)&1 == 1 {
			b[(at+i)/8] ^= 0x80 >> ((at + i) % 8)
		}
	}
	return string(b)
}

// isClosed tells of s, that is no text's Seal, that it is not opened.
func isClosed(t *testing.T, s string) {
	t.Helper()
	if x, ok := Open(s); x != "" || ok {
		t.Fatalf("%q: %q, %v", s, x, ok)
	}
}

// P3.1: sums that are known.
func TestSum(t *testing.T) {
	all := make([]byte, 256)
	for i := range all {
		all[i] = byte(i)
	}
	for _, c := range []struct {
		s    string
		want uint32
	}{
		{"", 0xffffffff},
		{"123456789", 0x0376e6e7},
		{"\x00", 0x4e08bfb4}, {"\x7f", 0x96f31fee}, {"\x80", 0x27045f5a}, {"\xff", 0xffffff00}, {"a", 0xe66c6494},
		{"\xff\xff", 0xffff0000}, {"\xff\xff\xff", 0xff000000}, {"\xff\xff\xff\xff", 0}, {"\xff\xff\xff\xff\xff", 0xb1f740b4},
		{"\x00\x00\x00\x00", 0xc704dd7b}, {"\x00\x7f\x80\xff", 0xaf051faa}, {"gunwale", 0x33086b4c}, {"\u00e9", 0x6270297b},
		{strings.Repeat("\x00", 32), 0x4a55af67}, {strings.Repeat("\xff", 32), 0x2f2ac900}, {string(all), 0x494a116a},
	} {
		if n := Sum(c.s); n != c.want {
			t.Errorf("%q: %08x", c.s, n)
		}
	}
}

// P3.1: sums are as the words say, and hang on all that is handed in, in its order.
func TestSumByWords(t *testing.T) {
	for _, s := range texts() {
		if n := Sum(s); n != wantSum(s) {
			t.Errorf("%d bytes, %.40q: %08x", len(s), s, n)
		}
	}
	if Sum("ab") == Sum("ba") || Sum("a", "b") == Sum("b", "a") || Sum("") == Sum("\x00") || Sum("\x00") == Sum("\x00\x00") {
		t.Error("unlike texts have one sum")
	}
}

// P3.1: behind whatever was summed up, each byte goes its eight steps, whichever of their highest bits are set.
func TestEightSteps(t *testing.T) {
	seen := map[[8]bool]bool{}
	for _, first := range []string{"", "\x00", "\x7f", "\x80", "\xff", "\xff\xff\xff\xff", "123456789"} {
		clear(seen)
		for b := range 256 {
			var set [8]bool
			n := wantSum(first) ^ uint32(b)*0x1000000
			for i := range 8 {
				n, set[i] = step(n)
			}
			seen[set] = true
			if got := Sum(first, string([]byte{byte(b)})); got != n {
				t.Errorf("%q, %d: %08x, not %08x", first, b, got, n)
			}
		}
		if len(seen) != 256 {
			t.Errorf("%q: %d of all highest bits were tried", first, len(seen))
		}
	}
}

// P3.1: no part, and empty ones, add nothing; it is one sum wherever a text is cut.
func TestParts(t *testing.T) {
	for _, l := range [][]string{nil, {}, {""}, {"", ""}, slices.Repeat([]string{""}, 1000)} {
		if n := Sum(l...); n != 0xffffffff {
			t.Errorf("%q: %08x", l, n)
		}
	}
	for _, s := range []string{"", "\x00", "\xff", "123456789", "\x00\x7f\x80\xff", "\xff\xff\xff\xff\x00\x00", strings.Repeat("ab\x80", 11)} {
		want := wantSum(s)
		for i := range len(s) + 1 {
			for k := i; k <= len(s); k++ {
				for _, l := range [][]string{{s[:i], s[i:]}, {s[:i], s[i:k], s[k:]}, {"", s[:i], "", "", s[i:k], s[k:], ""}} {
					if n := Sum(l...); n != want {
						t.Fatalf("%q: %08x", l, n)
					}
				}
			}
		}
		if l := strings.SplitAfter(s, ""); Sum(l...) != want {
			t.Errorf("%q: %08x", l, Sum(l...))
		}
	}
}

// P3.2: the bytes of a number, the highest first.
func TestBytes(t *testing.T) {
	for n, want := range map[uint32]string{
		0: "\x00\x00\x00\x00", 1: "\x00\x00\x00\x01", 255: "\x00\x00\x00\xff", 256: "\x00\x00\x01\x00", 0x0376e6e7: "\x03\x76\xe6\xe7",
		0x7fffffff: "\x7f\xff\xff\xff", 0x80000000: "\x80\x00\x00\x00", 0x80: "\x00\x00\x00\x80", 0x01020304: "\x01\x02\x03\x04", 0xffffffff: "\xff\xff\xff\xff",
	} {
		if s := Bytes(n); s != want {
			t.Errorf("%x: %q", n, s)
		}
	}
	for place := range 4 {
		for b := 1; b < 256; b++ {
			want := []byte{0, 0, 0, 0}
			want[place] = byte(b)
			if s := Bytes(uint32(b) << (24 - 8*place)); s != string(want) {
				t.Errorf("%d, %d: %q", place, b, s)
			}
		}
	}
	r := rand.New(rand.NewSource(2))
	for range 10000 {
		if n := r.Uint32(); Bytes(n) != wantBytes(n) {
			t.Fatalf("%x: %q", n, Bytes(n))
		}
	}
}

// P3.2, P3.3: what is sealed has its sum behind it, so that its own sum is 0, and is opened again.
func TestSeal(t *testing.T) {
	for s, want := range map[string]string{
		"": "\xff\xff\xff\xff", "123456789": "123456789\x03\x76\xe6\xe7", "\xff": "\xff\xff\xff\xff\x00", "\xff\xff\xff\xff": "\xff\xff\xff\xff\x00\x00\x00\x00",
		"\x00": "\x00\x4e\x08\xbf\xb4", "\x00\x7f\x80\xff": "\x00\x7f\x80\xff\xaf\x05\x1f\xaa",
	} {
		if x := Seal(s); x != want {
			t.Errorf("%q: %q", s, x)
		}
	}
	for _, s := range texts() {
		x := Seal(s)
		if x != s+wantBytes(wantSum(s)) {
			t.Errorf("%d bytes, %.40q: %.40q", len(s), s, x)
		}
		if Sum(x) != 0 || Sum(s, Bytes(Sum(s))) != 0 {
			t.Errorf("%d bytes, %.40q: %08x", len(s), s, Sum(x))
		}
		if back, ok := Open(x); back != s || !ok {
			t.Errorf("%d bytes, %.40q: %.40q, %v", len(s), s, back, ok)
		}
		if twice := Seal(x); twice != x+"\x00\x00\x00\x00" {
			t.Errorf("%d bytes, %.40q: sealed twice", len(s), s)
		} else if back, ok := Open(twice); back != x || !ok {
			t.Errorf("%d bytes, %.40q: sealed twice, %.40q, %v", len(s), s, back, ok)
		}
	}
}

// P3.2: texts of 0 to 4 bytes: one of them, the empty text sealed, is opened.
func TestOpenShort(t *testing.T) {
	marks := "\x00\x01\x7f\x80\xfe\xff"
	all, last := []string{""}, []string{""}
	for range 4 {
		var next []string
		for _, s := range last {
			for i := range len(marks) {
				next = append(next, s+marks[i:i+1])
			}
		}
		all, last = append(all, next...), next
	}
	for b := range 256 {
		for c := range 256 {
			all = append(all, string([]byte{byte(b)}), string([]byte{byte(b), byte(c)}), string([]byte{0xff, byte(b), byte(c)}), string([]byte{0xff, byte(b), 0xff, byte(c)}))
		}
	}
	for _, s := range all {
		if x, ok := Open(s); x != "" || ok != (s == "\xff\xff\xff\xff") {
			t.Fatalf("%q: %q, %v", s, x, ok)
		}
	}
}

// P3.2: what is no text's Seal is not opened: one of the last four bytes is wrong, or the sum is another one's, or
// stands otherwise.
func TestOpenWrong(t *testing.T) {
	for _, s := range []string{"", "\x00", "\xfe", "a", "abcd", "123456789", "\xff\xff\xff\x00", strings.Repeat("\x80", 100)} {
		x := Seal(s)
		for place := len(s); place < len(x); place++ {
			for d := 1; d < 256; d++ {
				b := []byte(x)
				b[place] ^= byte(d)
				isClosed(t, string(b))
			}
		}
		n := wantSum(s)
		for _, wrong := range []uint32{n + 1, n - 1, ^n, n ^ 1, n ^ 0x80000000, wantSum(s + "\x00"), wantSum(s + s + "a")} {
			isClosed(t, s+wantBytes(wrong))
		}
		for _, wrong := range []string{x[:len(x)-1], x[:len(s)+1], x + "\x01", x + "a", "\x00" + x, "a" + x} {
			isClosed(t, wrong)
		}
		if s != "" {
			isClosed(t, x[1:])
			isClosed(t, s)
		}
	}
	isClosed(t, "123456789\xe7\xe6\x76\x03")
	isClosed(t, "\x03\x76\xe6\xe7123456789")
	isClosed(t, "123456789\xfc\x89\x19\x18") // the sum, each bit the other way
	isClosed(t, "123456789\xcb\xf4\x39\x26") // the sum of the same steps from the lowest bit on
}

// P3.2: whatever text there is, it is opened if, and only if, it is Seal of what is ahead of its last four bytes.
func TestOpenByWords(t *testing.T) {
	r := rand.New(rand.NewSource(3))
	opened := 0
	for range 50000 {
		s := someText(r, 12)
		switch r.Intn(3) {
		case 0:
			s = Seal(s)
		case 1:
			s = Seal(s)
			s = flip(s, r.Intn(8*len(s)), 1, uint64(r.Intn(2)))
		}
		want, fits := "", false
		if end := len(s) - 4; end >= 0 && s[end:] == wantBytes(wantSum(s[:end])) {
			want, fits = s[:end], true
			opened++
		}
		if x, ok := Open(s); x != want || ok != fits {
			t.Fatalf("%q: %q, %v", s, x, ok)
		}
	}
	if opened < 10000 || opened > 40000 {
		t.Errorf("too few were tried either way: %d", opened)
	}
}

// P3.3: each bit of what was sealed, changed by itself, is seen; in long texts, too.
func TestBitChanged(t *testing.T) {
	r := rand.New(rand.NewSource(4))
	for _, s := range []string{"", "\x00", "\xff", "123456789", strings.Repeat("\x00", 30), strings.Repeat("\xff", 30), someText(r, 300)} {
		x := Seal(s)
		for at := range 8 * len(x) {
			y := flip(x, at, 1, 1)
			if Sum(y) == 0 {
				t.Fatalf("%q, %d: 0", s, at)
			}
			isClosed(t, y)
		}
	}
	long := Seal(strings.Repeat("gunwale ", 5000))
	for at := 0; at < 8*len(long); at += 3001 {
		isClosed(t, flip(long, at, 1, 1))
	}
}

// patterns are those of bits in a row, of that width, the first and the last one of which are changed: all of them, if
// they are few, else some.
func patterns(r *rand.Rand, width int) []uint64 {
	ends := uint64(1)<<(width-1) | 1
	if width == 1 {
		return []uint64{1}
	}
	var l []uint64
	if width <= 7 {
		for inner := range uint64(1) << (width - 2) {
			l = append(l, ends|inner<<1)
		}
		return l
	}
	l = append(l, ends, uint64(1)<<width-1, ends|0x04c11db7&(uint64(1)<<width-1))
	for range 12 {
		l = append(l, ends|r.Uint64()&(uint64(1)<<width-1))
	}
	return l
}

// P3.3: up to 32 bits in a row, changed, at every place, are seen.
func TestBitsInARowChanged(t *testing.T) {
	r := rand.New(rand.NewSource(5))
	for _, s := range []string{"", "\x00", "\xff", "123456789", strings.Repeat("\x80", 14)} {
		x := Seal(s)
		for width := 1; width <= 32; width++ {
			l := patterns(r, width)
			for at := range 8*len(x) - width + 1 {
				for _, p := range l {
					y := flip(x, at, width, p)
					if Sum(y) == 0 {
						t.Fatalf("%q, %d, %d, %x: 0", s, at, width, p)
					}
					isClosed(t, y)
				}
			}
		}
	}
}

// P3.2: 33 bits in a row can make one sealed text of another, which is what is opened then.
func TestOneMoreBitInARow(t *testing.T) {
	for _, s := range []string{"\x00", "123456789", strings.Repeat("\xff", 20)} {
		x := Seal(s)
		for at := range 8*len(x) - 32 {
			y := flip(x, at, 33, 0x104c11db7)
			if got, ok := Open(y); got != y[:len(s)] || got == s || !ok {
				t.Fatalf("%q, %d: %q, %v", s, at, got, ok)
			}
		}
	}
}

// apart tells whether two texts share no byte of memory.
func apart(a, b string) bool {
	if a == "" || b == "" {
		return true
	}
	x, y := uintptr(unsafe.Pointer(unsafe.StringData(a))), uintptr(unsafe.Pointer(unsafe.StringData(b)))
	return x+uintptr(len(a)) <= y || y+uintptr(len(b)) <= x
}

// R3: answers are in memory of their own, and what is handed in stays as it was, its spare room included.
func TestMemory(t *testing.T) {
	for _, s := range texts() {
		x := Seal(s)
		if !apart(s, x) {
			t.Errorf("what is sealed shares memory with %.40q", s)
		}
		if back, _ := Open(x); !apart(back, x) {
			t.Errorf("what is opened shares memory with %.40q", x)
		}
	}
	if a, b := Bytes(0x01020304), Bytes(0x01020304); !apart(a, b) {
		t.Error("two answers share memory")
	}
	room := []string{"12345", "6789", "spare", "room"}
	if n := Sum(room[:2]...); n != 0x0376e6e7 {
		t.Errorf("%08x", n)
	}
	if !slices.Equal(room, []string{"12345", "6789", "spare", "room"}) {
		t.Errorf("changed: %q", room)
	}
}
