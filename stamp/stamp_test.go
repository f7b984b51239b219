package stamp

import (
	"math"
	"math/rand"
	"slices"
	"testing"

	"gunwale/api"
)

// of is a stamp.
func of(counter, replica int) api.Stamp { return api.Stamp{Counter: counter, Replica: replica} }

// counters, and replicas, are those at which something turns, and some between, by rising order.
func counters() []int {
	return []int{math.MinInt, math.MinInt + 1, -1048576, -2, -1, 0, 1, 2, 3, 77, 65535, 65536, 1048574, 1048575, 1048576, 1048577, 1048578, 1 << 31, math.MaxInt - 1, math.MaxInt}
}

func replicas() []int {
	return []int{math.MinInt, -64, -2, -1, 0, 1, 2, 5, 31, 32, 61, 62, 63, 64, 65, 127, 128, 1 << 31, math.MaxInt - 1, math.MaxInt}
}

// edges are the stamps of all counters, and replicas, above.
func edges() []api.Stamp {
	var l []api.Stamp
	for _, c := range counters() {
		for _, r := range replicas() {
			l = append(l, of(c, r))
		}
	}
	return l
}

// mayBe tells by the words of the chapter whether s may be.
func mayBe(s api.Stamp) bool {
	return s.Counter >= 1 && s.Counter <= 1048576 && s.Replica >= 0 && s.Replica <= 63
}

// someMay are stamps that may be: all replicas at some counters, and some replicas at many counters.
func someMay() []api.Stamp {
	var l []api.Stamp
	for _, c := range counters() {
		for r := range 64 {
			if mayBe(of(c, r)) {
				l = append(l, of(c, r))
			}
		}
	}
	for c := 4; c < 1048576; c += 997 {
		for _, r := range []int{0, 1, 33, 62, 63} {
			l = append(l, of(c, r))
		}
	}
	return l
}

// P2.1: which stamps may be.
func TestCheck(t *testing.T) {
	for _, c := range []struct {
		s    api.Stamp
		want bool
	}{
		{of(1, 0), true}, {of(1, 63), true}, {of(1048576, 0), true}, {of(1048576, 63), true}, {of(3, 5), true}, {of(1048575, 62), true},
		{api.Stamp{}, false}, {of(0, 63), false}, {of(-1, 0), false}, {of(1048577, 0), false}, {of(1048577, 63), false},
		{of(1, -1), false}, {of(1048576, -1), false}, {of(1, 64), false}, {of(1048576, 64), false}, {of(0, -1), false}, {of(0, 64), false},
		{of(1048577, -1), false}, {of(math.MaxInt, math.MaxInt), false}, {of(math.MinInt, math.MinInt), false},
		{of(math.MaxInt, 0), false}, {of(math.MinInt, 0), false}, {of(1, math.MaxInt), false}, {of(1, math.MinInt), false},
	} {
		if Check(c.s) != c.want {
			t.Errorf("%v: %v", c.s, Check(c.s))
		}
	}
	for _, s := range edges() {
		if Check(s) != mayBe(s) {
			t.Errorf("%v: %v", s, Check(s))
		}
	}
	for c := -3; c <= 1048580; c++ {
		if s := of(c, c&63); Check(s) != mayBe(s) {
			t.Fatalf("%v: %v", s, Check(s))
		}
	}
}

// P2.1: which stamp stands ahead, in one row, those that may not be among them.
func TestLess(t *testing.T) {
	row := []api.Stamp{
		of(math.MinInt, math.MinInt), of(math.MinInt, 0), of(math.MinInt, math.MaxInt), of(-1, 0), of(-1, 7), of(0, -1), of(0, 0), of(0, 64),
		of(1, math.MinInt), of(1, -1), of(1, 0), of(1, 1), of(1, 63), of(1, 64), of(1, math.MaxInt), of(2, 0), of(2, 1), of(3, 0), of(9, 5),
		of(1048576, 0), of(1048576, 63), of(1048577, 0), of(math.MaxInt, math.MinInt), of(math.MaxInt, -1), of(math.MaxInt, 0), of(math.MaxInt, math.MaxInt),
	}
	for _, l := range [][]api.Stamp{row, edges()} {
		for i, a := range l {
			for k, b := range l {
				if Less(a, b) != (i < k) {
					t.Errorf("%v, %v: %v", a, b, Less(a, b))
				}
			}
		}
	}
}

// P2.2: the next stamp, and ErrClock, with nothing beside it.
func TestNext(t *testing.T) {
	for _, c := range []struct {
		seen, replica int
		want          api.Stamp
		err           api.Errno
	}{
		{0, 0, of(1, 0), api.OK}, {0, 63, of(1, 63), api.OK}, {1, 0, of(2, 0), api.OK}, {6, 5, of(7, 5), api.OK},
		{1048574, 1, of(1048575, 1), api.OK}, {1048575, 0, of(1048576, 0), api.OK}, {1048575, 63, of(1048576, 63), api.OK},
		{1048576, 0, api.Stamp{}, api.ErrClock}, {1048577, 0, api.Stamp{}, api.ErrClock}, {-1, 0, api.Stamp{}, api.ErrClock}, {-2, 0, api.Stamp{}, api.ErrClock},
		{math.MaxInt, 0, api.Stamp{}, api.ErrClock}, {math.MaxInt - 1, 0, api.Stamp{}, api.ErrClock}, {math.MinInt, 0, api.Stamp{}, api.ErrClock},
		{0, -1, api.Stamp{}, api.ErrClock}, {0, 64, api.Stamp{}, api.ErrClock}, {5, math.MaxInt, api.Stamp{}, api.ErrClock}, {5, math.MinInt, api.Stamp{}, api.ErrClock},
		{-1, -1, api.Stamp{}, api.ErrClock}, {1048576, 64, api.Stamp{}, api.ErrClock},
	} {
		if s, e := Next(c.seen, c.replica); s != c.want || e != c.err {
			t.Errorf("%d, %d: %v, %v", c.seen, c.replica, s, e)
		}
	}
	for _, seen := range counters() {
		for _, r := range replicas() {
			var want api.Stamp
			err := api.ErrClock
			if seen >= 0 && seen < 1048576 && r >= 0 && r <= 63 {
				want, err = of(seen+1, r), api.OK
			}
			if s, e := Next(seen, r); s != want || e != err {
				t.Errorf("%d, %d: %v, %v", seen, r, s, e)
			}
		}
	}
}

// P2.2: the greatest that was seen; stamps that may not be are not seen.
func TestSeen(t *testing.T) {
	for _, c := range []struct {
		seen int
		l    []api.Stamp
		want int
	}{
		{0, nil, 0}, {7, nil, 7}, {7, []api.Stamp{}, 7}, {-1, nil, -1}, {math.MinInt, nil, math.MinInt}, {math.MaxInt, nil, math.MaxInt},
		{0, []api.Stamp{of(1, 0)}, 1}, {4, []api.Stamp{of(3, 0)}, 4}, {4, []api.Stamp{of(4, 63)}, 4}, {4, []api.Stamp{of(5, 63)}, 5},
		{4, []api.Stamp{of(9, 1), of(3, 0)}, 9}, {4, []api.Stamp{of(3, 0), of(9, 1), of(8, 2)}, 9}, {4, []api.Stamp{of(5, 0), of(6, 0), of(7, 0)}, 7},
		{-1, []api.Stamp{of(1, 0)}, 1}, {math.MinInt, []api.Stamp{of(1048576, 0)}, 1048576}, {1048575, []api.Stamp{of(1048576, 63)}, 1048576},
		{math.MaxInt, []api.Stamp{of(1048576, 63)}, math.MaxInt}, {1048576, []api.Stamp{of(1, 1)}, 1048576},
		{3, []api.Stamp{of(1048577, 0)}, 3}, {3, []api.Stamp{of(9, 64)}, 3}, {3, []api.Stamp{of(9, -1)}, 3}, {3, []api.Stamp{of(math.MaxInt, 0)}, 3},
		{-5, []api.Stamp{{}}, -5}, {-5, []api.Stamp{of(-1, 0)}, -5}, {math.MinInt, []api.Stamp{of(0, 0), of(-3, 1)}, math.MinInt},
		{3, []api.Stamp{of(1048577, 0), of(5, 63), of(9, 64), of(9, -1), of(math.MaxInt, 0)}, 5}, {3, []api.Stamp{of(8, 0), of(9, 64)}, 8},
	} {
		if n := Seen(c.seen, c.l...); n != c.want {
			t.Errorf("%d, %v: %d", c.seen, c.l, n)
		}
	}
	if n := Seen(2, of(4, 0), of(6, 0), of(5, 0)); n != 6 {
		t.Errorf("%d", n)
	}
}

// P2.2: of any stamps, the greatest is as the words say, in whatever order they come, and in whatever pieces.
func TestSeenByWords(t *testing.T) {
	all := edges()
	r := rand.New(rand.NewSource(3))
	for range 5000 {
		seen := counters()[r.Intn(len(counters()))]
		var l []api.Stamp
		for range r.Intn(7) {
			l = append(l, all[r.Intn(len(all))], of(r.Intn(20), r.Intn(64)))
		}
		sorted := []int{seen}
		for _, s := range l {
			if mayBe(s) {
				sorted = append(sorted, s.Counter)
			}
		}
		slices.Sort(sorted)
		want := sorted[len(sorted)-1]
		if n := Seen(seen, l...); n != want {
			t.Fatalf("%d, %v: %d, not %d", seen, l, n, want)
		}
		cut := r.Intn(len(l) + 1)
		if n := Seen(Seen(seen, l[cut:]...), l[:cut]...); n != want {
			t.Fatalf("%d, %v, %v: %d, not %d", seen, l[cut:], l[:cut], n, want)
		}
	}
}

// P2.3: numbers of nodes, there and back.
func TestNumbers(t *testing.T) {
	for _, c := range []struct {
		s    api.Stamp
		file bool
		id   int
	}{
		{of(1, 0), false, 128}, {of(1, 0), true, 129}, {of(1, 1), false, 130}, {of(1, 1), true, 131}, {of(1, 63), false, 254}, {of(1, 63), true, 255},
		{of(2, 0), false, 256}, {of(3, 5), false, 394}, {of(3, 5), true, 395},
		{of(1048576, 0), false, 134217728}, {of(1048576, 0), true, 134217729}, {of(1048576, 63), false, 134217854}, {of(1048576, 63), true, 134217855},
	} {
		if id := ID(c.s, c.file); id != c.id {
			t.Errorf("%v, %v: %d", c.s, c.file, id)
		}
		if s, file, ok := Of(c.id); s != c.s || file != c.file || !ok {
			t.Errorf("%d: %v, %v, %v", c.id, s, file, ok)
		}
		if Dir(c.id) == c.file {
			t.Errorf("%d: %v", c.id, Dir(c.id))
		}
	}
}

// P2.3: a stamp that may not be makes no number.
func TestNoStamps(t *testing.T) {
	for _, s := range edges() {
		for _, file := range []bool{false, true} {
			if id := ID(s, file); (id == -1) == mayBe(s) {
				t.Errorf("%v, %v: %d", s, file, id)
			}
		}
	}
}

// P2.3: what is no number of a node that was made at a stamp; Root, and Trash, are directories, and the others none.
func TestNoNumbers(t *testing.T) {
	l := []int{math.MinInt, math.MinInt + 1, math.MinInt + 128, -1 << 32, -134217855, -134217728, -256, -255, -129, -128, -127, -3, -2, -1,
		134217856, 134217857, 134217858, 134217983, 134217984, 1<<28 + 128, 1<<31 - 1, 1 << 31, 1<<32 + 128, 1<<32 + 395, math.MaxInt - 128, math.MaxInt - 1, math.MaxInt}
	for id := range 128 {
		l = append(l, id)
	}
	for _, id := range l {
		if s, file, ok := Of(id); s != (api.Stamp{}) || file || ok {
			t.Errorf("%d: %v, %v, %v", id, s, file, ok)
		}
		if Dir(id) != (id == 0 || id == 2) {
			t.Errorf("%d: %v", id, Dir(id))
		}
	}
}

// P2.3, P2.4: of the numbers there are, each is told back, and the same as by counting on.
func TestCountOn(t *testing.T) {
	for _, from := range []int{1, 2, 77, 65535, 1048575} {
		id := 128 * from
		for c := from; c < from+2; c++ {
			for r := range 64 {
				for _, file := range []bool{false, true} {
					s, f, ok := Of(id)
					if s != of(c, r) || f != file || !ok || ID(s, f) != id || Dir(id) == file {
						t.Errorf("%d: %v, %v, %v, %d, %v", id, s, f, ok, ID(s, f), Dir(id))
					}
					id++
				}
			}
		}
	}
	for id := 128; id < 134217856; id += 101 {
		if s, file, ok := Of(id); !ok || !mayBe(s) || file != (id%2 == 1) || ID(s, file) != id || Dir(id) == file {
			t.Fatalf("%d: %v, %v, %v", id, s, file, ok)
		}
	}
}

// P2.4: numbers are told back to their stamps.
func TestToldBack(t *testing.T) {
	seen := map[int]api.Stamp{}
	for _, s := range someMay() {
		for _, file := range []bool{false, true} {
			id := ID(s, file)
			if back, f, ok := Of(id); back != s || f != file || !ok {
				t.Fatalf("%v, %v: %d, %v, %v, %v", s, file, id, back, f, ok)
			}
			if other, ok := seen[id]; ok && other != s || id == api.Root || id == api.Trash || id == api.Nowhere {
				t.Fatalf("%v, %v: %d, as %v", s, file, id, other)
			}
			seen[id] = s
		}
	}
}

// P2.4: of two unlike stamps one stands ahead, and so do their numbers, of files and of directories.
func TestOneAhead(t *testing.T) {
	l := someMay()
	r := rand.New(rand.NewSource(4))
	for range 200000 {
		a, b := l[r.Intn(len(l))], l[r.Intn(len(l))]
		if r.Intn(2) == 0 {
			b = of(a.Counter, r.Intn(64))
		}
		if a == b {
			if Less(a, b) {
				t.Fatalf("%v is ahead of itself", a)
			}
			continue
		}
		if Less(a, b) == Less(b, a) {
			t.Fatalf("%v, %v: both ways %v", a, b, Less(a, b))
		}
		for _, files := range [][2]bool{{false, false}, {false, true}, {true, false}, {true, true}} {
			if (ID(a, files[0]) < ID(b, files[1])) != Less(a, b) {
				t.Fatalf("%v, %v: %v, %d, %d", a, b, Less(a, b), ID(a, files[0]), ID(b, files[1]))
			}
		}
	}
}

// P2.4: what is next stands behind all that was seen, and is seen then itself.
func TestNextIsBehind(t *testing.T) {
	l := someMay()
	r := rand.New(rand.NewSource(5))
	made := 0
	for range 20000 {
		var some []api.Stamp
		for range r.Intn(6) {
			some = append(some, l[r.Intn(len(l))])
		}
		seen := Seen(0, some...)
		s, e := Next(seen, r.Intn(64))
		if full := slices.ContainsFunc(some, func(x api.Stamp) bool { return x.Counter == 1048576 }); full != (e == api.ErrClock) {
			t.Fatalf("%v: %v, %v", some, s, e)
		}
		if e != api.OK {
			continue
		}
		made++
		for _, x := range some {
			if !Less(x, s) {
				t.Fatalf("%v does not stand behind %v", s, x)
			}
		}
		if n := Seen(seen, s); !Check(s) || n != s.Counter {
			t.Fatalf("%v: %d", s, n)
		}
	}
	if made < 1000 {
		t.Errorf("too few were tried: %d", made)
	}
}

// R3: what is handed in stays as it was, its spare room included.
func TestMemory(t *testing.T) {
	room := []api.Stamp{of(5, 1), of(0, 0), of(3, 2), of(9, 9), of(8, 64)}
	if n := Seen(1, room[:3]...); n != 5 {
		t.Errorf("%d", n)
	}
	if !slices.Equal(room, []api.Stamp{of(5, 1), of(0, 0), of(3, 2), of(9, 9), of(8, 64)}) {
		t.Errorf("changed: %v", room)
	}
}
