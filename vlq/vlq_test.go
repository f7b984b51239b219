package vlq

import (
	"math"
	"math/big"
	"math/rand"
	"slices"
	"strings"
	"testing"
	"unsafe"

	"gunwale/api"
)

// greatest has the bytes of the greatest number there is.
const greatest = "\xff\xff\xff\xff\xff\xff\xff\xff\x7f"

// wantBytes tells by the words of the chapter the bytes of n, that is not below 0.
func wantBytes(n int) string {
	s := string([]byte{byte(n % 128)})
	for n /= 128; n > 0; n /= 128 {
		s = string([]byte{byte(n%128) + 128}) + s
	}
	return s
}

// wantTake tells by the words of the chapter the number whose bytes b begins with, how many these are, and whether
// there is one: some beginning of b, taken as digits, has to have these very bytes.
func wantTake(b string) (int, int, bool) {
	value := new(big.Int)
	for i := range min(len(b), 10) {
		value.Mul(value, big.NewInt(128)).Add(value, big.NewInt(int64(b[i]%128)))
		if value.IsInt64() && wantBytes(int(value.Int64())) == b[:i+1] {
			return int(value.Int64()), i + 1, true
		}
	}
	return 0, 0, false
}

// numbers are those at which one byte more is needed, those next to them, the greatest one, and some of any size, by
// rising order.
func numbers() []int {
	l := []int{0, 1, 2, 5, 64, 126, 129, 255, 256, 300, math.MaxInt - 1, math.MaxInt}
	for size := 1; size < 9; size++ {
		turn := 1 << (7 * size)
		l = append(l, turn-2, turn-1, turn, turn+1, 2*turn, 64*turn, 65*turn+1)
	}
	r := rand.New(rand.NewSource(1))
	for bit := range 63 {
		for range 20 {
			l = append(l, 1<<bit|int(r.Int63())&(1<<bit-1))
		}
	}
	slices.Sort(l)
	return slices.Compact(l)
}

// behinds are bytes that may stand ahead of what is put, or behind what is taken.
func behinds() []string {
	return []string{"", "x", "yz", "\x00", "\x7f", "\x80", "\x80\x00", "\x81\x00", "\xff", "\x00\x00\x00", "\xff\xff\xff\xff\xff\xff\xff\xff\xff\xff", strings.Repeat("\x80", 300), strings.Repeat("gunwale", 100)}
}

// sizes are how many bytes some texts have: those at which one byte more is needed to tell it, and some others.
func sizes() []int {
	return []int{0, 1, 2, 5, 126, 127, 128, 129, 200, 255, 256, 300, 16382, 16383, 16384, 16385, 40000}
}

// someText has n bytes of any value, those at which something turns more often than others.
func someText(r *rand.Rand, n int) string {
	b := make([]byte, n)
	for i := range b {
		b[i] = byte(r.Intn(256))
		if r.Intn(2) == 0 {
			b[i] = "\x00\x01\x7f\x80\x81\xff"[r.Intn(6)]
		}
	}
	return string(b)
}

// isNoNumber tells of b, that begins with no number's bytes, that none is taken, and no text either.
func isNoNumber(t *testing.T, b string) {
	t.Helper()
	if n, rest, e := Take(b); n != 0 || rest != "" || e != api.ErrCode {
		t.Errorf("%.40q: %d, %.40q, %v", b, n, rest, e)
	}
	isNoText(t, b)
}

// isNoText tells of b, that begins with no text's bytes, that none is taken.
func isNoText(t *testing.T, b string) {
	t.Helper()
	if u, rest, e := TakeText(b); u != "" || rest != "" || e != api.ErrCode {
		t.Errorf("%.40q: %.40q, %.40q, %v", b, u, rest, e)
	}
}

// isNotPut tells of l, of which one is below 0, that nothing is put.
func isNotPut(t *testing.T, l ...int) {
	t.Helper()
	for _, b := range behinds() {
		if s, e := Put(b, l...); s != "" || e != api.ErrCode {
			t.Errorf("%.40q, %d: %.40q, %v", b, l, s, e)
		}
	}
}

// P4.1, P4.2: numbers whose bytes are known.
func TestKnownNumbers(t *testing.T) {
	for _, c := range []struct {
		n    int
		want string
	}{
		{0, "\x00"}, {1, "\x01"}, {5, "\x05"}, {126, "\x7e"}, {127, "\x7f"},
		{128, "\x81\x00"}, {129, "\x81\x01"}, {255, "\x81\x7f"}, {256, "\x82\x00"}, {300, "\x82\x2c"}, {16256, "\xff\x00"}, {16383, "\xff\x7f"},
		{16384, "\x81\x80\x00"}, {16385, "\x81\x80\x01"}, {16512, "\x81\x81\x00"}, {2097151, "\xff\xff\x7f"},
		{2097152, "\x81\x80\x80\x00"}, {268435455, "\xff\xff\xff\x7f"},
		{268435456, "\x81\x80\x80\x80\x00"}, {math.MaxUint32, "\x8f\xff\xff\xff\x7f"}, {34359738367, "\xff\xff\xff\xff\x7f"},
		{34359738368, "\x81\x80\x80\x80\x80\x00"}, {1<<42 - 1, "\xff\xff\xff\xff\xff\x7f"},
		{1 << 42, "\x81\x80\x80\x80\x80\x80\x00"}, {1<<49 - 1, "\xff\xff\xff\xff\xff\xff\x7f"},
		{1 << 49, "\x81\x80\x80\x80\x80\x80\x80\x00"}, {1<<56 - 1, "\xff\xff\xff\xff\xff\xff\xff\x7f"},
		{1 << 56, "\x81\x80\x80\x80\x80\x80\x80\x80\x00"}, {1 << 62, "\xc0\x80\x80\x80\x80\x80\x80\x80\x00"},
		{math.MaxInt - 127, "\xff\xff\xff\xff\xff\xff\xff\xff\x00"}, {math.MaxInt - 1, "\xff\xff\xff\xff\xff\xff\xff\xff\x7e"}, {math.MaxInt, greatest},
	} {
		if size := Size(c.n); size != len(c.want) {
			t.Errorf("%d: %d", c.n, size)
		}
		if b, e := Put("", c.n); b != c.want || e != api.OK {
			t.Errorf("%d: %q, %v", c.n, b, e)
		}
		if n, rest, e := Take(c.want); n != c.n || rest != "" || e != api.OK {
			t.Errorf("%q: %d, %q, %v", c.want, n, rest, e)
		}
	}
}

// P4.1: numbers of any size have the bytes that the words tell.
func TestNumbersByWords(t *testing.T) {
	for n := range 1 << 16 {
		if b, e := Put("", n); b != wantBytes(n) || e != api.OK || Size(n) != len(b) {
			t.Fatalf("%d: %q, %v, %d", n, b, e, Size(n))
		}
	}
	for _, n := range numbers() {
		if b, e := Put("", n); b != wantBytes(n) || e != api.OK || Size(n) != len(b) {
			t.Errorf("%d: %q, %v, %d", n, b, e, Size(n))
		}
	}
}

// P4.1: a number below 0 has no bytes, and is not put, wherever it stands among others.
func TestBelowNone(t *testing.T) {
	for _, n := range []int{-1, -2, -127, -128, -129, -16384, math.MinInt32, -1 << 56, math.MinInt + 1, math.MinInt} {
		if size := Size(n); size != 0 {
			t.Errorf("%d: %d", n, size)
		}
		isNotPut(t, n)
		isNotPut(t, n, 0)
		isNotPut(t, n, 1, 300)
		isNotPut(t, 1, n, 300)
		isNotPut(t, 1, 300, n)
		isNotPut(t, math.MaxInt, n)
		isNotPut(t, n, n)
		isNotPut(t, append(slices.Repeat([]int{7}, 500), n)...)
	}
}

// P4.1: of no numbers at all, what is told is what was handed in.
func TestPutNone(t *testing.T) {
	for _, b := range behinds() {
		if s, e := Put(b); s != b || e != api.OK {
			t.Errorf("%.40q: %.40q, %v", b, s, e)
		}
		if s, e := Put(b, []int{}...); s != b || e != api.OK {
			t.Errorf("%.40q: %.40q, %v", b, s, e)
		}
	}
}

// P4.1: numbers are put one behind the other, in their order, behind whatever bytes there are.
func TestPutMany(t *testing.T) {
	if b, e := Put("", 5, 300); b != "\x05\x82\x2c" || e != api.OK {
		t.Errorf("%q, %v", b, e)
	}
	if b, e := Put("", 300, 5); b != "\x82\x2c\x05" || e != api.OK {
		t.Errorf("%q, %v", b, e)
	}
	if b, e := Put("\x80", 0, 0, 128, math.MaxInt, 0); b != "\x80\x00\x00\x81\x00"+greatest+"\x00" || e != api.OK {
		t.Errorf("%q, %v", b, e)
	}
	l := numbers()
	var all strings.Builder
	for _, n := range l {
		all.WriteString(wantBytes(n))
	}
	for _, b := range behinds() {
		if s, e := Put(b, l...); s != b+all.String() || e != api.OK {
			t.Errorf("%.40q: all numbers: %.40q, %v", b, s, e)
		}
		for _, n := range l {
			if s, e := Put(b, n, 7, n); s != b+wantBytes(n)+"\x07"+wantBytes(n) || e != api.OK {
				t.Errorf("%.40q, %d: %.40q, %v", b, n, s, e)
			}
		}
	}
}

// P4.2, P4.4: a number is taken as it was put, and what stands behind is told as it was.
func TestTake(t *testing.T) {
	for _, want := range numbers() {
		for _, behind := range behinds() {
			b, e := Put("", want)
			if e != api.OK {
				t.Fatalf("%d: %v", want, e)
			}
			if n, rest, e := Take(b + behind); n != want || rest != behind || e != api.OK {
				t.Errorf("%d, %.40q: %d, %.40q, %v", want, behind, n, rest, e)
			}
		}
	}
}

// P4.2: no number is taken of bytes that are cut, or of which none is below 128.
func TestTakeCut(t *testing.T) {
	isNoNumber(t, "")
	for _, n := range numbers() {
		b := wantBytes(n)
		for end := range len(b) {
			isNoNumber(t, b[:end])
		}
	}
	for b := 128; b < 256; b++ {
		for _, size := range []int{1, 2, 3, 8, 9, 10, 11, 1000, 1 << 20} {
			isNoNumber(t, strings.Repeat(string([]byte{byte(b)}), size))
		}
	}
}

// P4.2: no number is taken of digits with a 0 in front.
func TestTakeNotFewest(t *testing.T) {
	for _, b := range []string{"\x80\x00", "\x80\x01", "\x80\x7f", "\x80\x80\x00", "\x80\x81\x00", "\x80\x80\x01", "\x80\xff\x7f", "\x80\x80\x80\x80\x80\x80\x80\x80\x00", "\x80\x80\x80\x80\x80\x80\x80\x80\x80\x01"} {
		isNoNumber(t, b)
	}
	for _, n := range numbers() {
		for _, behind := range behinds() {
			isNoNumber(t, "\x80"+wantBytes(n)+behind)
			isNoNumber(t, "\x80\x80"+wantBytes(n)+behind)
		}
	}
}

// P4.2: of nine bytes a number is taken; of ten, and more, which would be too great for an int, none.
func TestTakeTooGreat(t *testing.T) {
	for first := 129; first < 256; first++ {
		for _, digit := range []byte{0x80, 0x81, 0xc0, 0xfe, 0xff} {
			for _, last := range []byte{0, 1, 0x7e, 0x7f} {
				front := string([]byte{byte(first)})
				nine := front + strings.Repeat(string([]byte{digit}), 7) + string([]byte{last})
				want, size, ok := wantTake(nine)
				if size != 9 || !ok {
					t.Fatalf("%q: %d bytes, %v", nine, size, ok)
				}
				if n, rest, e := Take(nine + "yz"); n != want || rest != "yz" || e != api.OK {
					t.Errorf("%q: %d, %q, %v", nine, n, rest, e)
				}
				for _, many := range []int{8, 9, 10, 11, 18, 27, 63, 64, 500} {
					isNoNumber(t, front+strings.Repeat(string([]byte{digit}), many)+string([]byte{last})+"yz")
				}
			}
		}
	}
	for _, b := range []string{"\x81\x80\x80\x80\x80\x80\x80\x80\x80\x00", "\x81\xff\xff\xff\xff\xff\xff\xff\xff\x7f", "\x82\x80\x80\x80\x80\x80\x80\x80\x80\x00", "\xff\xff\xff\xff\xff\xff\xff\xff\xff\x7f", "\x83\xff\xff\xff\xff\xff\xff\xff\xff\xff\x7f"} {
		isNoNumber(t, b)
	}
}

// takesByWords tells of b that what is taken of it is as the words tell.
func takesByWords(t *testing.T, b string) {
	t.Helper()
	want, size, ok := wantTake(b)
	if !ok {
		isNoNumber(t, b)
		return
	}
	if n, rest, e := Take(b); n != want || rest != b[size:] || e != api.OK {
		t.Errorf("%q: %d, %q, %v", b, n, rest, e)
	}
	if want > len(b)-size {
		isNoText(t, b)
		return
	}
	if u, rest, e := TakeText(b); u != b[size:][:want] || rest != b[size:][want:] || e != api.OK {
		t.Errorf("%q: %q, %q, %v", b, u, rest, e)
	}
}

// P4.2, P4.3: what is taken of all texts of up to two bytes, of all of up to five of those at which something turns, and
// of many of any.
func TestTakeByWords(t *testing.T) {
	takesByWords(t, "")
	for a := range 256 {
		takesByWords(t, string([]byte{byte(a)}))
		for b := range 256 {
			takesByWords(t, string([]byte{byte(a), byte(b)}))
		}
	}
	last, marks := []string{""}, "\x00\x01\x02\x7f\x80\x81\xfe\xff"
	for range 5 {
		var next []string
		for _, s := range last {
			for i := range len(marks) {
				next = append(next, s+marks[i:i+1])
				takesByWords(t, s+marks[i:i+1])
			}
		}
		last = next
	}
	r := rand.New(rand.NewSource(2))
	for range 100000 {
		b := []byte(someText(r, r.Intn(16)))
		for i := range r.Intn(len(b) + 1) {
			b[i] |= 128
		}
		takesByWords(t, string(b))
	}
}

// P4.3: texts whose bytes are known.
func TestKnownTexts(t *testing.T) {
	for _, c := range []struct{ b, t, want string }{
		{"", "", "\x00"}, {"x", "", "x\x00"}, {"", "a", "\x01a"}, {"x", "abc", "x\x03abc"}, {"\x80", "\x00", "\x80\x01\x00"}, {"", "\xff\x80", "\x02\xff\x80"},
		{"", "\u00e4\u20ac", "\x05\xc3\xa4\xe2\x82\xac"},
		{"", strings.Repeat("a", 127), "\x7f" + strings.Repeat("a", 127)},
		{"", strings.Repeat("a", 128), "\x81\x00" + strings.Repeat("a", 128)},
		{"x", strings.Repeat("\x80", 300), "x\x82\x2c" + strings.Repeat("\x80", 300)},
		{"", strings.Repeat("\xff", 16383), "\xff\x7f" + strings.Repeat("\xff", 16383)},
		{"", strings.Repeat("\x00", 16384), "\x81\x80\x00" + strings.Repeat("\x00", 16384)},
	} {
		if b := Text(c.b, c.t); b != c.want {
			t.Errorf("%q, %.40q: %.40q", c.b, c.t, b)
		}
		if u, rest, e := TakeText(c.want[len(c.b):]); u != c.t || rest != "" || e != api.OK {
			t.Errorf("%.40q: %.40q, %.40q, %v", c.want, u, rest, e)
		}
	}
	if u, rest, e := TakeText("\x02abc"); u != "ab" || rest != "c" || e != api.OK {
		t.Errorf("%q, %q, %v", u, rest, e)
	}
}

// P4.3, P4.4: a text of any size is put behind whatever bytes there are, and taken again, whatever stands behind.
func TestTexts(t *testing.T) {
	r := rand.New(rand.NewSource(3))
	for _, size := range sizes() {
		want := someText(r, size)
		for _, other := range behinds() {
			if b := Text(other, want); b != other+wantBytes(size)+want {
				t.Errorf("%.40q, %d bytes: %.40q", other, size, b)
			}
			if u, rest, e := TakeText(Text("", want) + other); u != want || rest != other || e != api.OK {
				t.Errorf("%d bytes, %.40q: %.40q, %.40q, %v", size, other, u, rest, e)
			}
		}
	}
}

// P4.3: no text is taken where there are fewer bytes than it says.
func TestTakeTextCut(t *testing.T) {
	r := rand.New(rand.NewSource(4))
	for _, size := range sizes() {
		b := wantBytes(size) + someText(r, size)
		for _, end := range []int{0, 1, 2, 3, 4, size / 2, size - 1, size, size + 1, size + 2} {
			if end >= 0 && end < len(b) {
				isNoText(t, b[:end])
			}
		}
	}
	for _, n := range numbers() {
		for _, behind := range behinds() {
			if n > len(behind) {
				isNoText(t, wantBytes(n)+behind)
			}
		}
	}
	for _, b := range []string{"\x01", "\x02a", "\x7f", "\x81\x00" + strings.Repeat("a", 127), greatest, greatest + "a", "\xff\xff\xff\xff\xff\xff\xff\xff\x76" + strings.Repeat("a", 20), "\xc0\x80\x80\x80\x80\x80\x80\x80\x00a"} {
		isNoText(t, b)
	}
}

// P4.3: no text is taken where how many bytes it has is no number's bytes, though all that it says is there.
func TestTakeTextWrong(t *testing.T) {
	isNoText(t, "")
	for _, b := range []string{"\x80\x00", "\x80\x01a", "\x80\x81\x00" + strings.Repeat("a", 128), "\x81", "\xff\xff", "\x81\x80\x80\x80\x80\x80\x80\x80\x80\x00", "\x82\x80\x80\x80\x80\x80\x80\x80\x80\x01a"} {
		isNoText(t, b)
		isNoText(t, b+strings.Repeat("\xff", 300))
	}
}

// P4.4: many numbers and texts, one behind the other, are taken again in their order, until nothing is left.
func TestTakenAgain(t *testing.T) {
	r := rand.New(rand.NewSource(5))
	all := numbers()
	for range 500 {
		var l []int
		var texts []string
		b := ""
		for range r.Intn(12) {
			l, texts = append(l, all[r.Intn(len(all))]), append(texts, someText(r, r.Intn(300)))
			put, e := Put(b, l[len(l)-1])
			if e != api.OK {
				t.Fatalf("%d: %v", l[len(l)-1], e)
			}
			b = Text(put, texts[len(texts)-1])
		}
		for i, want := range l {
			n, rest, e := Take(b)
			if n != want || e != api.OK {
				t.Fatalf("%d: %d, %v", want, n, e)
			}
			u, rest, e := TakeText(rest)
			if u != texts[i] || e != api.OK {
				t.Fatalf("%q: %q, %v", texts[i], u, e)
			}
			b = rest
		}
		isNoNumber(t, b)
	}
}

// P4.4: a greater number has no fewer bytes, and has one more at each power of 128 alone.
func TestSizesRise(t *testing.T) {
	last := 1
	for _, n := range numbers() {
		size := Size(n)
		if size < last || size > 9 {
			t.Errorf("%d: %d bytes, behind %d", n, size, last)
		}
		last = size
	}
	for size := 1; size < 9; size++ {
		if turn := 1 << (7 * size); Size(turn-1) != size || Size(turn) != size+1 {
			t.Errorf("%d: %d, and %d", turn, Size(turn-1), Size(turn))
		}
	}
}

// apart tells whether two texts share no byte of memory.
func apart(a, b string) bool {
	if a == "" || b == "" {
		return true
	}
	x, y := uintptr(unsafe.Pointer(unsafe.StringData(a))), uintptr(unsafe.Pointer(unsafe.StringData(b)))
	return x+uintptr(len(a)) <= y || y+uintptr(len(b)) <= x
}

// R3: answers are in memory of their own, and what is handed in stays as it was, its spare room included.
func TestMemory(t *testing.T) {
	for _, b := range behinds() {
		none, _ := Put(b)
		some, _ := Put(b, 5, 300)
		empty, text := Text(b, ""), Text(b, "abc")
		if !apart(b, none) || !apart(b, some) || !apart(b, empty) || !apart(b, text) || !apart(b, Text("", b)) {
			t.Errorf("what is put shares memory with %.40q", b)
		}
		if _, rest, _ := Take(some[len(b):]); !apart(rest, some) {
			t.Errorf("what is taken shares memory with %.40q", some)
		}
		whole := Text("", b) + "behind"
		u, rest, e := TakeText(whole)
		if u != b || rest != "behind" || e != api.OK || !apart(u, whole) || !apart(rest, whole) || !apart(u, rest) {
			t.Errorf("what is taken shares memory with %.40q", whole)
		}
	}
	room := []int{5, 300, -7, 8}
	if b, e := Put("x", room[:2]...); b != "x\x05\x82\x2c" || e != api.OK {
		t.Errorf("%q, %v", b, e)
	}
	if !slices.Equal(room, []int{5, 300, -7, 8}) {
		t.Errorf("changed: %d", room)
	}
}
