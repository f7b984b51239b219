package op

import (
	"math"
	"math/rand"
	"slices"
	"strings"
	"testing"
	"time"
	"unicode/utf8"
	"unsafe"

	"gunwale/api"
)

// at is a stamp.
func at(counter, replica int) api.Stamp { return api.Stamp{Counter: counter, Replica: replica} }

// moved, and written, are operations of both kinds.
func moved(s api.Stamp, node, parent int, name string) api.Op {
	return api.Op{At: s, Kind: api.OMove, Node: node, Parent: parent, Name: name}
}

func written(s api.Stamp, node int, data string) api.Op {
	return api.Op{At: s, Kind: api.OWrite, Node: node, Data: data}
}

// dir, and file, are the numbers of the nodes that were made at a stamp.
func dir(counter, replica int) int  { return 128*counter + 2*replica }
func file(counter, replica int) int { return dir(counter, replica) + 1 }

// mayBe tells by the words of the chapter whether o may be.
func mayBe(o api.Op) bool {
	if o.At.Counter < 1 || o.At.Counter > 1048576 || o.At.Replica < 0 || o.At.Replica > 63 {
		return false
	}
	for _, id := range []int{o.Node, o.Parent} {
		if isNode(id) && id/2 > 64*o.At.Counter+o.At.Replica {
			return false
		}
	}
	switch o.Kind {
	case 1:
		directory := o.Parent == 0 || o.Parent == 2 || isNode(o.Parent) && o.Parent%2 == 0
		return isNode(o.Node) && directory && isName(o.Name) && o.Data == ""
	case 2:
		return isNode(o.Node) && o.Node%2 == 1 && len(o.Data) <= 64 && o.Parent == 0 && o.Name == ""
	}
	return false
}

// isNode tells whether id is a node's number; half of it is 64 for each of the stamp's Counter, and its Replica.
func isNode(id int) bool { return id >= 128 && id < 128*1048577 }

// isName tells whether s is a name.
func isName(s string) bool {
	for _, r := range s {
		if r < 32 || r == 127 || r == '/' {
			return false
		}
	}
	n := utf8.RuneCountInString(s)
	return utf8.ValidString(s) && n >= 1 && n <= 20 && s != "." && s != ".."
}

// wantNumber, and wantBytes, tell by the words the bytes of a number, and of an operation.
func wantNumber(n int) string {
	s := string([]byte{byte(n % 128)})
	for n /= 128; n > 0; n /= 128 {
		s = string([]byte{byte(n%128) + 128}) + s
	}
	return s
}

func wantBytes(o api.Op) string {
	b := wantNumber(o.At.Counter) + wantNumber(o.At.Replica) + wantNumber(o.Kind) + wantNumber(o.Node)
	if o.Kind == api.OMove {
		return b + wantNumber(o.Parent) + wantNumber(len(o.Name)) + o.Name
	}
	return b + wantNumber(len(o.Data)) + o.Data
}

// wantTake tells by the words the operation whose bytes b begins with, how many these are, and whether there is one:
// numbers are taken as they come, and what they make has to be one that may be, with these very bytes.
func wantTake(b string) (api.Op, int, bool) {
	rest := b
	number := func() int {
		n := 0
		for i := range min(len(rest), 9) {
			n = 128*n + int(rest[i]%128)
			if rest[i] < 128 {
				rest = rest[i+1:]
				return n
			}
		}
		return -1
	}
	text := func() string {
		n := number()
		if n < 0 || n > len(rest) {
			return strings.Repeat("?", 100)
		}
		return rest[:n]
	}
	o := api.Op{At: at(number(), number()), Kind: number(), Node: number()}
	if o.Kind == api.OMove {
		o.Parent = number()
		o.Name = text()
	} else {
		o.Data = text()
	}
	if !mayBe(o) || !strings.HasPrefix(b, wantBytes(o)) {
		return api.Op{}, 0, false
	}
	return o, len(wantBytes(o)), true
}

// wantRead tells by the words the operations of which b is the bytes, and whether there are any.
func wantRead(b string) ([]api.Op, bool) {
	var l []api.Op
	for b != "" {
		o, size, ok := wantTake(b)
		if !ok {
			return nil, false
		}
		l, b = append(l, o), b[size:]
	}
	return l, true
}

// last is the greatest stamp there is, longName a name with as many bytes as one may have.
var last = at(1048576, 63)

var longName = strings.Repeat("\U0001f4be", 20)

// someMay are operations that may be: those at the edges, and some others.
func someMay() []api.Op {
	l := []api.Op{
		written(at(2, 1), 129, "ab"), moved(at(1, 0), 129, api.Root, "x"), moved(at(300, 63), 256, 128, "\u00e4"), moved(at(3, 0), 128, api.Trash, "y"),
		moved(at(1, 0), 128, api.Root, "x"), moved(at(1, 0), 128, 128, "x"), moved(at(1, 0), 129, 128, "x"), moved(at(1, 63), 255, 254, "z"), moved(at(2, 0), 255, 254, "z"),
		moved(at(5, 7), dir(5, 7), dir(5, 6), "a b"), moved(at(5, 7), file(5, 7), dir(5, 7), "..."), moved(at(5, 7), file(4, 63), dir(4, 63), ".a"),
		moved(last, file(1048576, 63), dir(1048576, 63), longName), moved(last, dir(1048576, 63), dir(1048576, 63), strings.Repeat("n", 20)), moved(last, 128, 0, "~"),
		moved(at(1, 1), 129, api.Trash, "\ufffd"), moved(at(127, 0), 128, 0, "q"), moved(at(128, 0), 128, 0, "q"), moved(at(16383, 1), 128, 0, "q"), moved(at(16384, 1), 128, 0, "q"),
		written(at(1, 0), 129, ""), written(at(1, 63), 255, "\x00"), written(at(2, 0), 255, "/"), written(at(5, 7), file(5, 7), strings.Repeat("d", 63)),
		written(last, file(1048576, 63), strings.Repeat("\xff", 64)), written(last, 129, strings.Repeat("\x00", 64)), written(at(9, 9), file(9, 8), "\x01\x00\x01\x81\x00\x00\x01x"),
	}
	r := rand.New(rand.NewSource(1))
	for len(l) < 300 {
		if o := someOp(r); mayBe(o) {
			l = append(l, o)
		}
	}
	return l
}

// someOp is an operation that may be in most cases.
func someOp(r *rand.Rand) api.Op {
	s := at(1+r.Intn(1<<r.Intn(21)), r.Intn(64))
	node := 128 + r.Intn(128*s.Counter)
	if r.Intn(2) == 0 {
		return written(s, node|1, string(someBytes(r, r.Intn(65))))
	}
	parent := 2 * r.Intn(2)
	if r.Intn(3) > 0 {
		parent = (128 + r.Intn(128*s.Counter)) &^ 1
	}
	name := []rune("abc \u00e4\u20ac\U0001f4be..~")[r.Intn(8):]
	return moved(s, node, parent, strings.Repeat(string(name), 1+r.Intn(2)))
}

func someBytes(r *rand.Rand, n int) []byte {
	b := make([]byte, n)
	for i := range b {
		b[i] = byte(r.Intn(256))
		if r.Intn(2) == 0 {
			b[i] = "\x00\x01\x02\x7f\x80\x81\xff"[r.Intn(7)]
		}
	}
	return b
}

// someNone are operations that may not be, by one part each.
func someNone() []api.Op {
	move, write := moved(at(2, 5), 128, api.Root, "x"), written(at(2, 5), 129, "d")
	var l []api.Op
	spoil := func(o api.Op, how func(o *api.Op)) {
		how(&o)
		l = append(l, o)
	}
	for _, s := range []api.Stamp{{}, at(0, 5), at(-1, 5), at(1048577, 5), at(2, -1), at(2, 64), at(math.MaxInt, 5), at(math.MinInt, 5), at(2, math.MaxInt), at(2, math.MinInt), at(math.MaxInt, math.MaxInt)} {
		spoil(move, func(o *api.Op) { o.At = s })
		spoil(write, func(o *api.Op) { o.At = s })
	}
	for _, kind := range []int{0, 3, 4, -1, -2, 129, 256, 257, 258, 1 << 32, 1<<32 + 1, math.MaxInt, math.MinInt} {
		spoil(move, func(o *api.Op) { o.Kind = kind })
		spoil(write, func(o *api.Op) { o.Kind = kind })
		l = append(l, api.Op{At: at(2, 5), Kind: kind}, api.Op{At: at(2, 5), Kind: kind, Node: 129}, api.Op{At: at(2, 5), Kind: kind, Node: 128})
	}
	none := []int{-1, 0, 1, 2, 3, 126, 127, -128, -129, 128*1048577 + 1, 128 * 1048577, 128*1048577 + 129, 1 << 40, math.MaxInt, math.MaxInt - 1, math.MinInt, math.MinInt + 1}
	later := []int{dir(2, 6), file(2, 6), dir(3, 0), file(3, 0), dir(2, 63), file(2, 63), dir(3, 5), file(1048576, 63), dir(1048576, 63)}
	for _, id := range slices.Concat(none, later) {
		spoil(move, func(o *api.Op) { o.Node = id })
		spoil(write, func(o *api.Op) { o.Node = id })
		spoil(write, func(o *api.Op) { o.Parent = id | 1 })
		if id != api.Root && id != api.Trash {
			spoil(move, func(o *api.Op) { o.Parent = id })
		}
		if id != 0 {
			spoil(write, func(o *api.Op) { o.Parent = id })
		}
	}
	for _, id := range []int{129, 255, file(2, 5), file(2, 4)} {
		spoil(move, func(o *api.Op) { o.Parent = id })
		spoil(write, func(o *api.Op) { o.Parent = id })
		spoil(write, func(o *api.Op) { o.Parent = id - 1 })
		spoil(write, func(o *api.Op) { o.Node = id - 1 })
	}
	for _, name := range []string{"", ".", "..", "/", "a/b", "/a", "a\x00", "\x1f", "\x7f", "\x80", "a\xff", "\xed\xa0\x80", strings.Repeat("n", 21), longName + "n", strings.Repeat("n", 500)} {
		spoil(move, func(o *api.Op) { o.Name = name })
		spoil(write, func(o *api.Op) { o.Name = name + "n" })
	}
	for _, data := range []string{"x", "\x00", "ab", strings.Repeat("d", 64), strings.Repeat("d", 65), strings.Repeat("d", 500)} {
		spoil(move, func(o *api.Op) { o.Data = data })
		if len(data) > 64 {
			spoil(write, func(o *api.Op) { o.Data = data })
		}
	}
	return append(l, api.Op{}, moved(at(2, 5), file(2, 6), dir(2, 5), "x"), moved(at(2, 5), file(2, 5), dir(2, 6), "x"), written(at(2, 5), 129, strings.Repeat("\x00", 65)))
}

// behinds are bytes that may stand ahead of what is put, or behind what is taken.
func behinds() []string {
	return []string{"", "z", "\x00", "\x80", "\xff\xff", "\x01\x00", "\x01\x00\x01\x81\x00\x00\x01x", strings.Repeat("\x81", 300), strings.Repeat("gunwale", 100)}
}

// P5.1: the operations above may be, and those may not.
func TestCheck(t *testing.T) {
	for _, o := range someMay() {
		if !Check(o) || !mayBe(o) {
			t.Errorf("%v: may not be", o)
		}
	}
	for _, o := range someNone() {
		if Check(o) || mayBe(o) {
			t.Errorf("%v: may be", o)
		}
	}
}

// P5.1: of parts at which something turns, put together in all ways, those may be of which the words tell so.
func TestCheckByWords(t *testing.T) {
	stamps := []api.Stamp{{}, at(1, 0), at(1, 1), at(1, 63), at(2, 0), at(2, 5), at(1048576, 62), last, at(1048577, 0), at(2, 64), at(2, -1)}
	ids := []int{-1, 0, 1, 2, 3, 127, 128, 129, 130, 131, 254, 255, 256, 257, dir(2, 5), file(2, 5), dir(2, 6), file(2, 6), dir(1048576, 62), file(1048576, 63), dir(1048576, 63), 128 * 1048577}
	names := []string{"", "x", "..", "a/b", longName, longName + "n"}
	datas := []string{"", "d", strings.Repeat("d", 64), strings.Repeat("d", 65)}
	many := 0
	for _, s := range stamps {
		for kind := -1; kind <= 3; kind++ {
			for i := range len(ids) * len(ids) * len(names) * len(datas) {
				o := api.Op{At: s, Kind: kind, Node: ids[i%len(ids)], Parent: ids[i/len(ids)%len(ids)]}
				i /= len(ids) * len(ids)
				o.Name, o.Data = names[i%len(names)], datas[i/len(names)]
				want := mayBe(o)
				if Check(o) != want {
					t.Fatalf("%v: %v", o, !want)
				}
				if want {
					many++
				}
			}
		}
	}
	if many < 900 {
		t.Errorf("only %d of them may be", many)
	}
}

// P5.1: a Node's stamp, and a Parent's, may be At, or stand ahead of it, and may not stand behind.
func TestMadeLater(t *testing.T) {
	row := []api.Stamp{at(1, 0), at(1, 1), at(1, 62), at(1, 63), at(2, 0), at(2, 63), at(3, 0), at(64, 1), at(1048575, 63), at(1048576, 0), at(1048576, 62), last}
	for i, s := range row {
		for k, node := range row {
			f, d := file(node.Counter, node.Replica), dir(node.Counter, node.Replica)
			want := k <= i
			for _, o := range []api.Op{moved(s, f, api.Root, "x"), moved(s, d, api.Trash, "x"), moved(s, 128, d, "x"), moved(s, 129, d, "x"), moved(s, f, d, "x"), moved(s, d, d, "x"), written(s, f, "d")} {
				if Check(o) != want {
					t.Errorf("%v: %v", o, !want)
				}
			}
		}
	}
}

// P5.1: which one stands ahead is told by their At alone, those that may not be among them.
func TestLess(t *testing.T) {
	row := []api.Stamp{at(math.MinInt, 5), at(-1, 0), at(0, 63), at(1, -1), at(1, 0), at(1, 1), at(1, 63), at(1, 64), at(2, 0), at(2, 1), at(300, 63), last, at(1048577, 0), at(math.MaxInt, math.MaxInt)}
	for i, a := range row {
		for k, b := range row {
			for _, p := range [][2]api.Op{
				{{At: a}, {At: b}}, {moved(a, 128, 0, "x"), written(b, 129, "d")}, {written(a, 129, "d"), moved(b, 128, 0, "x")},
				{moved(a, 500, 300, "y"), moved(b, 400, 200, "x")}, {moved(a, 400, 200, "x"), moved(b, 500, 300, "y")}, {written(a, 129, ""), written(b, 255, "d")},
			} {
				if Less(p[0], p[1]) != (i < k) {
					t.Errorf("%v, %v: %v", p[0], p[1], Less(p[0], p[1]))
				}
			}
		}
	}
}

// P5.2: operations whose bytes are known.
func TestKnownBytes(t *testing.T) {
	for _, c := range []struct {
		o    api.Op
		want string
	}{
		{written(at(2, 1), 129, "ab"), "\x02\x01\x02\x81\x01\x02ab"},
		{written(at(1, 0), 129, ""), "\x01\x00\x02\x81\x01\x00"},
		{moved(at(1, 0), 129, api.Root, "x"), "\x01\x00\x01\x81\x01\x00\x01x"},
		{moved(at(3, 0), 128, api.Trash, "y"), "\x03\x00\x01\x81\x00\x02\x01y"},
		{moved(at(300, 63), 256, 128, "\u00e4"), "\x82\x2c\x3f\x01\x82\x00\x81\x00\x02\xc3\xa4"},
		{moved(at(128, 0), 128, 254, "ab"), "\x81\x00\x00\x01\x81\x00\x81\x7e\x02ab"},
		{written(last, 128*1048577-1, strings.Repeat("\xff", 64)), "\xc0\x80\x00\x3f\x02\xc0\x80\x80\x7f\x40" + strings.Repeat("\xff", 64)},
		{moved(last, 128*1048577-1, 128*1048577-2, longName), "\xc0\x80\x00\x3f\x01\xc0\x80\x80\x7f\xc0\x80\x80\x7e\x50" + longName},
	} {
		if b, e := Put("", c.o); b != c.want || e != api.OK {
			t.Errorf("%v: %q, %v", c.o, b, e)
		}
		if o, rest, e := Take(c.want); o != c.o || rest != "" || e != api.OK {
			t.Errorf("%q: %v, %q, %v", c.want, o, rest, e)
		}
	}
}

// P5.2, P5.4: an operation is put behind whatever bytes there are, and taken again, whatever stands behind.
func TestPutAndTake(t *testing.T) {
	for _, want := range someMay() {
		for _, other := range behinds() {
			if b, e := Put(other, want); b != other+wantBytes(want) || e != api.OK {
				t.Errorf("%.40q, %v: %.40q, %v", other, want, b, e)
			}
			if o, rest, e := Take(wantBytes(want) + other); o != want || rest != other || e != api.OK {
				t.Errorf("%v, %.40q: %v, %.40q, %v", want, other, o, rest, e)
			}
		}
	}
}

// P5.2: what may not be is not put.
func TestPutNone(t *testing.T) {
	for _, o := range someNone() {
		for _, b := range behinds() {
			if s, e := Put(b, o); s != "" || e != api.ErrOp {
				t.Errorf("%.40q, %v: %.40q, %v", b, o, s, e)
			}
		}
	}
}

// isNone tells of b, that begins with no operation's bytes, that none is taken, and none are read.
func isNone(t *testing.T, b string) {
	t.Helper()
	if o, rest, e := Take(b); o != (api.Op{}) || rest != "" || e != api.ErrOp {
		t.Errorf("%.40q: %v, %.40q, %v", b, o, rest, e)
	}
	if b != "" {
		isNotRead(t, b)
	}
}

// isNotRead tells of b, that is not the bytes of operations alone, that none are read.
func isNotRead(t *testing.T, b string) {
	t.Helper()
	if l, e := Read(b); len(l) != 0 || e != api.ErrOp {
		t.Errorf("%.40q: %v, %v", b, l, e)
	}
}

// P5.2: no operation is taken of what is only a beginning of its bytes.
func TestTakeCut(t *testing.T) {
	isNone(t, "")
	for _, o := range someMay() {
		b := wantBytes(o)
		for end := range len(b) {
			isNone(t, b[:end])
		}
	}
}

// P5.2: no operation is taken of the bytes of one that may not be.
func TestTakeNone(t *testing.T) {
	for _, o := range someNone() {
		if min(o.At.Counter, o.At.Replica, o.Kind, o.Node, o.Parent) < 0 {
			continue
		}
		// The parts that have no bytes are those of the other kind.
		if o.Kind == api.OMove && o.Data != "" || o.Kind == api.OWrite && (o.Parent != 0 || o.Name != "") {
			continue
		}
		for _, other := range behinds() {
			isNone(t, wantBytes(o)+other)
		}
	}
	for _, b := range []string{
		"\x02\x05\x00\x81\x01\x01d", "\x02\x05\x03\x81\x01\x01d", "\x02\x05\x00\x81\x00\x00\x01x", "\x02\x05\x03\x81\x00\x00\x01x",
		"\x02\x05\x01\x81\x00\x00\x00", "\x02\x05\x01\x81\x00\x00\x01/", "\x02\x05\x01\x81\x00\x81\x01\x01x", "\x02\x05\x02\x81\x00\x01d",
	} {
		isNone(t, b)
		isNone(t, b+b)
	}
}

// P5.2: no operation is taken of numbers with a 0 ahead, nor of those that are too great.
func TestTakeWrongNumbers(t *testing.T) {
	move := []string{"\x02", "\x05", "\x01", "\x81\x00", "\x00", "\x01", "x"}
	write := []string{"\x02", "\x05", "\x02", "\x81\x01", "\x01", "d"}
	for _, parts := range [][]string{move, write} {
		if _, rest, e := Take(strings.Join(parts, "")); rest != "" || e != api.OK {
			t.Fatalf("%q: %q, %v", parts, rest, e)
		}
		for i := range len(parts) - 1 {
			for _, wrong := range []string{"\x80" + parts[i], "\x80\x80" + parts[i], "\x81\x80\x80\x80\x80\x80\x80\x80\x80" + parts[i], strings.Repeat("\xff", 8) + "\x7f", strings.Repeat("\xff", 9) + "\x7f", strings.Repeat("\xff", 500)} {
				l := slices.Clone(parts)
				l[i] = wrong
				isNone(t, strings.Join(l, ""))
				isNone(t, strings.Join(l, "")+strings.Repeat("\x01", 300))
			}
		}
	}
}

// takesByWords tells of b that what is taken of it, and read, is as the words tell.
func takesByWords(t *testing.T, b string) bool {
	t.Helper()
	want, size, ok := wantTake(b)
	if !ok {
		isNone(t, b)
	} else if o, rest, e := Take(b); o != want || rest != b[size:] || e != api.OK {
		t.Errorf("%q: %v, %q, %v", b, o, rest, e)
	}
	all, whole := wantRead(b)
	if !whole {
		isNotRead(t, b)
	} else if l, e := Read(b); !slices.Equal(l, all) || e != api.OK {
		t.Errorf("%q: %v, %v", b, l, e)
	}
	return ok
}

// P5.2, P5.3: what is taken, and read, of many bytes: of any ones, and of those of operations, changed here and there.
func TestTakeByWords(t *testing.T) {
	r := rand.New(rand.NewSource(2))
	ops := someMay()
	taken := 0
	for range 60000 {
		b := someBytes(r, r.Intn(12))
		if r.Intn(4) > 0 {
			b = []byte(wantBytes(ops[r.Intn(len(ops))]) + wantBytes(ops[r.Intn(len(ops))]))
		}
		for range r.Intn(3) {
			from, to := r.Intn(len(b)+1), r.Intn(len(b)+1)
			switch r.Intn(3) {
			case 0:
				b = slices.Insert(b, from, someBytes(r, 1)[0])
			case 1:
				b = slices.Concat(b[:from], b[min(from+1, len(b)):])
			case 2:
				copy(b[from:], b[to:min(to+1, len(b))])
			}
		}
		if takesByWords(t, string(b)) {
			taken++
		}
	}
	if taken < 10000 || taken > 50000 {
		t.Errorf("%d are taken", taken)
	}
}

// P5.3: all are written one behind the other, and read again, in their order; none at all, too.
func TestWriteAndRead(t *testing.T) {
	for _, none := range [][]api.Op{nil, {}} {
		if b, e := Write(none); b != "" || e != api.OK {
			t.Errorf("%q, %v", b, e)
		}
	}
	if l, e := Read(""); len(l) != 0 || e != api.OK {
		t.Errorf("%v, %v", l, e)
	}
	if b, e := Write([]api.Op{written(at(2, 1), 129, "ab"), moved(at(1, 0), 129, api.Root, "x")}); b != "\x02\x01\x02\x81\x01\x02ab\x01\x00\x01\x81\x01\x00\x01x" || e != api.OK {
		t.Errorf("%q, %v", b, e)
	}
	r := rand.New(rand.NewSource(3))
	ops := someMay()
	for many := range 260 {
		var want strings.Builder
		l := make([]api.Op, many)
		for i := range l {
			l[i] = ops[r.Intn(len(ops))]
			want.WriteString(wantBytes(l[i]))
		}
		b, e := Write(l)
		if b != want.String() || e != api.OK {
			t.Errorf("%v: %.40q, %v", l, b, e)
		}
		if x, e := Read(b); !slices.Equal(x, l) || e != api.OK {
			t.Errorf("%.40q: %v, %v", b, x, e)
		}
	}
}

// P5.3: none are written, if one may not be, wherever it stands.
func TestWriteNone(t *testing.T) {
	good := someMay()[:5]
	for _, o := range someNone() {
		for i := range len(good) + 1 {
			if b, e := Write(slices.Insert(slices.Clone(good), i, o)); b != "" || e != api.ErrOp {
				t.Errorf("%v, %d: %.40q, %v", o, i, b, e)
			}
		}
		if b, e := Write([]api.Op{o}); b != "" || e != api.ErrOp {
			t.Errorf("%v: %.40q, %v", o, b, e)
		}
	}
}

// P5.3: none are read, if any bytes stand behind, ahead, or between that are none's.
func TestReadNone(t *testing.T) {
	ops := someMay()
	for i, o := range ops {
		a, b := wantBytes(o), wantBytes(ops[(i+1)%len(ops)])
		for _, wrong := range []string{"\x00", "\x80", "\xff\xff\xff", "\x01\x00\x03", "\x02\x05\x03\x81\x01\x01d", strings.Repeat("\x81", 300)} {
			isNotRead(t, a+b+wrong)
			isNotRead(t, a+wrong+b)
			isNotRead(t, wrong+a+b)
		}
		for end := 1; end < len(b); end++ {
			isNotRead(t, a+b[:end])
			isNotRead(t, a+a+a+b[:end])
		}
	}
}

// P5.3, R1: long lists, and long bytes, are written and read in a time that does not rise faster than they do.
func TestLong(t *testing.T) {
	began := time.Now()
	l := slices.Repeat(someMay(), 200)
	b, e := Write(l)
	if e != api.OK {
		t.Fatalf("%v", e)
	}
	if x, e := Read(b); !slices.Equal(x, l) || e != api.OK {
		t.Errorf("%d of %d, %v", len(x), len(l), e)
	}
	isNotRead(t, b+"\x01")
	isNone(t, strings.Repeat("\xff", 1<<22))
	isNone(t, "\x02\x05\x02\x81\x01\x81\x80\x80\x00"+strings.Repeat("d", 1<<22))
	if passed := time.Since(began); passed > 20*time.Second {
		t.Errorf("%v", passed)
	}
}

// apart tells whether two texts share no byte of memory.
func apart(a, b string) bool {
	if a == "" || b == "" {
		return true
	}
	x, y := uintptr(unsafe.Pointer(unsafe.StringData(a))), uintptr(unsafe.Pointer(unsafe.StringData(b)))
	return x+uintptr(len(a)) <= y || y+uintptr(len(b)) <= x
}

// R3: answers are in memory of their own, and what is handed in stays as it was, its spare room included.
func TestMemory(t *testing.T) {
	for _, o := range someMay() {
		for _, other := range behinds() {
			b, _ := Put(other, o)
			if !apart(b, other) || !apart(b, o.Name) || !apart(b, o.Data) {
				t.Errorf("what is put shares memory with %.40q, %v", other, o)
			}
			all := strings.Clone(wantBytes(o) + other)
			x, rest, _ := Take(all)
			if !apart(x.Name, all) || !apart(x.Data, all) || !apart(rest, all) {
				t.Errorf("what is taken shares memory with %.40q", all)
			}
		}
	}
	ops := someMay()
	room := slices.Clone(ops)
	b, e := Write(room[:20])
	if e != api.OK || !slices.Equal(room, ops) {
		t.Errorf("%v: changed", e)
	}
	x, _ := Read(b)
	y, _ := Read(b)
	for i := range x {
		if !apart(x[i].Name, b) || !apart(x[i].Data, b) {
			t.Errorf("%v shares memory with what it was read from", x[i])
		}
		x[i] = api.Op{}
	}
	if !slices.Equal(y, ops[:20]) {
		t.Errorf("two answers share memory")
	}
}
