package diff

import (
	"math"
	"math/rand"
	"slices"
	"strings"
	"testing"
	"time"
	"unsafe"

	"gunwale/api"
	"gunwale/name"
	"gunwale/stamp"
	"gunwale/tree"
	"gunwale/view"
)

// noRunes is a text that has no runes, last the greatest number of a file.
const (
	noRunes = "\xff"
	last    = 128*1048577 - 1
)

// at is a stamp.
func at(counter, replica int) api.Stamp { return api.Stamp{Counter: counter, Replica: replica} }

// in7 is a node in a directory, by a name, moved at the Counter 7; file is one with Data.
func in7(id, parent int, s string) api.Node {
	return api.Node{ID: id, Parent: parent, Name: s, Moved: at(7, 0)}
}

func file(id, parent int, s, data string) api.Node {
	n := in7(id, parent, s)
	n.Data, n.Wrote = data, at(8, 0)
	return n
}

// with is l, and more, of one number the one of more, by rising IDs; without is l without some.
func with(l []api.Node, more ...api.Node) []api.Node {
	for _, n := range more {
		l = append(without(l, n.ID), n)
	}
	slices.SortFunc(l, func(a, b api.Node) int { return a.ID - b.ID })
	return l
}

func without(l []api.Node, ids ...int) []api.Node {
	return slices.DeleteFunc(slices.Clone(l), func(n api.Node) bool { return slices.Contains(ids, n.ID) })
}

// gone, came, and wrote, are events of paths, in order; events are those of any kind.
func gone(paths ...string) []api.Event  { return events(1, paths) }
func came(paths ...string) []api.Event  { return events(2, paths) }
func wrote(paths ...string) []api.Event { return events(3, paths) }

func events(kind int, paths []string) []api.Event {
	var all []api.Event
	for _, s := range paths {
		all = append(all, api.Event{Kind: kind, Path: s})
	}
	return all
}

// then is events one behind the other.
func then(l ...[]api.Event) []api.Event { return slices.Concat(l...) }

// someTree is nodes of several levels, files and directories, in Root, in Trash, Nowhere, and in what is not there.
func someTree() []api.Node {
	return []api.Node{
		in7(128, 0, "a"), in7(130, 128, "b"), file(133, 130, "f", "text"), in7(256, 130, "c"), file(257, 256, "f", "\x00\xff"), in7(384, 256, "d"),
		in7(512, api.Trash, "old"), file(515, 512, "e", "thrown"), {ID: 641, Parent: api.Nowhere, Data: "early", Wrote: at(5, 0)},
		in7(768, 900, "g"), file(771, 768, "h", ""), in7(896, 0, "A"), file(last, 0, "a.", noRunes),
	}
}

// treePaths is what is seen of someTree below Root.
func treePaths() []string {
	return []string{"/A", "/a", "/a/b", "/a/b/c", "/a/b/c/d", "/a/b/c/f", "/a/b/f", "/a."}
}

// reversed is l, the last one first.
func reversed(l []string) []string {
	l = slices.Clone(l)
	slices.Reverse(l)
	return l
}

// someDirs are numbers of directories, of files, and of none, there and not.
func someDirs() []int {
	return []int{0, 2, -1, -2, 1, 3, 127, 128, 129, 130, 133, 256, 257, 384, 512, 515, 641, 768, 771, 896, 900, 1024, last, last + 1, math.MaxInt, math.MinInt}
}

// wantOf, and wantPlay, tell by the words what is asked for, one by one, slowly.
func wantOf(a, b []api.Node, dir int) []api.Event {
	was, is := view.Items(a, dir), view.Items(b, dir)
	same := func(item api.Item) bool {
		like := func(other api.Item) bool { return other.Path == item.Path && other.ID == item.ID }
		return slices.ContainsFunc(was, like) && slices.ContainsFunc(is, like)
	}
	var all []api.Event
	for i := len(was) - 1; i >= 0; i-- {
		if !same(was[i]) {
			all = append(all, api.Event{Kind: 1, Path: was[i].Path})
		}
	}
	for _, item := range is {
		if !same(item) {
			all = append(all, api.Event{Kind: 2, Path: item.Path})
		}
	}
	for _, item := range is {
		if same(item) && !slices.Contains(was, item) {
			all = append(all, api.Event{Kind: 3, Path: item.Path})
		}
	}
	return all
}

func wantPlay(l []string, e []api.Event) []string {
	var all []string
	put := func(s string) {
		i := 0
		for i < len(all) && slices.Compare([]byte(all[i]), []byte(s)) < 0 {
			i++
		}
		if i == len(all) || all[i] != s {
			all = slices.Insert(all, i, s)
		}
	}
	for _, s := range l {
		put(s)
	}
	for _, event := range e {
		switch event.Kind {
		case 1:
			all = slices.DeleteFunc(all, func(s string) bool { return s == event.Path })
		case 2:
			put(event.Path)
		}
	}
	return all
}

// wantEvents looks whether Of tells these events; wantTexts whether Play tells these texts.
func wantEvents(t *testing.T, a, b []api.Node, dir int, want []api.Event) {
	t.Helper()
	if e := Of(a, b, dir); !slices.Equal(e, want) {
		t.Errorf("%v, %v, %d: %v, not %v", a, b, dir, e, want)
	}
}

func wantTexts(t *testing.T, l []string, e []api.Event, want []string) {
	t.Helper()
	if got := Play(l, e); !slices.Equal(got, want) {
		t.Errorf("%q, %v: %q, not %q", l, e, got, want)
	}
}

// P9.1: nodes that came, and are gone, of one level, and of several.
func TestCameGone(t *testing.T) {
	l := someTree()
	for _, c := range []struct {
		ids   []int
		dir   int
		paths []string
	}{
		{[]int{896}, 0, []string{"/A"}}, {[]int{last}, 0, []string{"/a."}}, {[]int{133}, 0, []string{"/a/b/f"}}, {[]int{384}, 0, []string{"/a/b/c/d"}}, {[]int{384, 257, 896}, 0, []string{"/A", "/a/b/c/d", "/a/b/c/f"}},
		// What is below a directory that is gone is gone as well, whether its nodes are there or not.
		{[]int{256}, 0, []string{"/a/b/c", "/a/b/c/d", "/a/b/c/f"}}, {[]int{256, 257, 384}, 0, []string{"/a/b/c", "/a/b/c/d", "/a/b/c/f"}}, {[]int{128}, 0, treePaths()[1:7]}, {[]int{128, 896, last}, 0, treePaths()},
		{[]int{130, 384}, 128, []string{"/b", "/b/c", "/b/c/d", "/b/c/f", "/b/f"}}, {[]int{384, 133}, 130, []string{"/c/d", "/f"}}, {[]int{257, 384}, 256, []string{"/d", "/f"}}, {[]int{512}, api.Trash, []string{"/old", "/old/e"}},
		{[]int{515, 896}, api.Trash, []string{"/old/e"}}, {[]int{515, 771}, 768, []string{"/h"}}, {[]int{768}, 900, []string{"/g", "/g/h"}},
		// What is not seen below the directory is not told.
		{[]int{512, 515}, 0, nil}, {[]int{641, 768, 771}, 0, nil}, {[]int{896, last, 128, 512}, 128, nil}, {[]int{128, 130, 256, 133}, 256, nil}, {[]int{128}, 896, nil}, {[]int{641}, api.Nowhere, nil},
	} {
		wantEvents(t, without(l, c.ids...), l, c.dir, came(c.paths...))
		wantEvents(t, l, without(l, c.ids...), c.dir, gone(reversed(c.paths)...))
	}
}

// P9.1: what was moved is gone at its path, and came at the other one, with all below it, as far as both are below dir.
func TestMoved(t *testing.T) {
	l := someTree()
	for _, c := range []struct {
		n    api.Node
		dir  int
		want []api.Event
	}{
		{in7(896, 0, "B"), 0, then(gone("/A"), came("/B"))},
		{in7(896, 128, "A"), 0, then(gone("/A"), came("/a/A"))},
		{in7(256, 0, "c"), 0, then(gone("/a/b/c/f", "/a/b/c/d", "/a/b/c"), came("/c", "/c/d", "/c/f"))},
		{in7(128, 896, "x"), 0, then(gone("/a/b/f", "/a/b/c/f", "/a/b/c/d", "/a/b/c", "/a/b", "/a"), came("/A/x", "/A/x/b", "/A/x/b/c", "/A/x/b/c/d", "/A/x/b/c/f", "/A/x/b/f"))},
		{in7(256, 0, "c"), 128, gone("/b/c/f", "/b/c/d", "/b/c")},
		{in7(256, 128, "c"), 128, then(gone("/b/c/f", "/b/c/d", "/b/c"), came("/c", "/c/d", "/c/f"))},
		{in7(256, api.Trash, "c"), 0, gone("/a/b/c/f", "/a/b/c/d", "/a/b/c")},
		{in7(256, api.Trash, "c"), api.Trash, came("/c", "/c/d", "/c/f")},
		{in7(512, 384, "new"), 0, came("/a/b/c/d/new", "/a/b/c/d/new/e")},
		{in7(768, 384, "new"), 256, came("/d/new", "/d/new/h")},
		{in7(641, 384, "new"), 384, came("/new")},
		// Of a directory that is moved itself what is below it stays.
		{in7(128, 896, "x"), 128, nil}, {in7(256, api.Trash, "y"), 256, nil}, {in7(130, 900, "y"), 256, nil},
		// What was moved to where it was, at another time, is the same.
		{api.Node{ID: 896, Name: "A", Moved: at(9, 9)}, 0, nil},
		// What was moved at a time that may not be is in no directory.
		{api.Node{ID: 896, Name: "A", Moved: at(0, 9)}, 0, gone("/A")},
	} {
		wantEvents(t, l, with(l, c.n), c.dir, c.want)
	}
}

// P9.1: what is the same, and has another Data, was written, whichever is empty, or longer; no other part of a node's.
func TestWrote(t *testing.T) {
	l := someTree()
	datas := []string{"", "x", "text", "texts", "tex", "TEXT", "\x00", "\x00\xff", noRunes, strings.Repeat("d", 64), strings.Repeat("d", 1000)}
	for _, old := range datas {
		for _, data := range datas {
			a, b := with(l, file(133, 130, "f", old)), with(l, file(133, 130, "f", data))
			for dir, path := range map[int]string{0: "/a/b/f", 128: "/b/f", 130: "/f"} {
				want := wrote(path)
				if old == data {
					want = nil
				}
				wantEvents(t, a, b, dir, want)
			}
			for _, dir := range []int{133, 256, api.Trash, 896, 900} {
				wantEvents(t, a, b, dir, nil)
			}
		}
	}
	n := in7(133, 130, "f")
	n.Data, n.Wrote, n.Moved = "text", at(1048576, 63), at(9, 9)
	wantEvents(t, l, with(l, n), 0, nil)
	// What is not seen was not written.
	wantEvents(t, l, with(l, file(641, api.Nowhere, "", "x"), file(515, 512, "e", "x"), file(771, 768, "h", "x")), 0, nil)
	// A directory may have Data that was made by hand.
	wantEvents(t, l, with(l, file(130, 128, "b", "x")), 0, wrote("/a/b"))
	// Several were written: in order, not by their numbers.
	all := with(l, file(last, 0, "a.", "1"), file(133, 130, "f", "2"), file(257, 256, "f", "3"))
	wantEvents(t, l, all, 0, wrote("/a/b/c/f", "/a/b/f", "/a."))
	wantEvents(t, l, all, 128, wrote("/b/c/f", "/b/f"))
}

// P9.1: nothing was there; nothing is there; neither; and the same nodes twice.
func TestNothing(t *testing.T) {
	l, paths := someTree(), treePaths()
	for _, none := range [][]api.Node{nil, {}, make([]api.Node, 0, 4), without(l, 128, 896, last), {in7(128, api.Trash, "a")}} {
		wantEvents(t, none, l, 0, came(paths...))
		wantEvents(t, l, none, 0, gone(reversed(paths)...))
		for _, other := range [][]api.Node{nil, {}, {in7(128, 900, "z")}} {
			wantEvents(t, none, other, 0, nil)
			wantEvents(t, other, none, 0, nil)
		}
	}
	for _, dir := range someDirs() {
		wantEvents(t, l, l, dir, nil)
		wantEvents(t, l, someTree(), dir, nil)
		wantEvents(t, nil, nil, dir, nil)
	}
}

// P9.1: an item of the same Path and another ID, and of the same ID and another Path, is not the same, whatever its Data.
func TestNotTheSame(t *testing.T) {
	d := in7(256, 0, "d")
	for _, data := range []string{"", "x", "y"} {
		one := []api.Node{file(129, 0, "f", "x"), d}
		wantEvents(t, one, []api.Node{d, file(257, 0, "f", data)}, 0, then(gone("/f"), came("/f")))
		wantEvents(t, one, []api.Node{file(129, 0, "g", data), d}, 0, then(gone("/f"), came("/g")))
		wantEvents(t, one, []api.Node{file(129, 256, "f", data), d}, 0, then(gone("/f"), came("/d/f")))
		wantEvents(t, one, []api.Node{d, file(257, 0, "g", data)}, 0, then(gone("/f"), came("/g")))
		// One of another number took its place, and it is somewhere else.
		wantEvents(t, one, []api.Node{file(129, 0, "e", data), d, file(257, 0, "f", data)}, 0, then(gone("/f"), came("/e", "/f")))
		// Two that take each other's places.
		two := []api.Node{file(129, 0, "f", "x"), file(257, 0, "g", "y")}
		wantEvents(t, two, []api.Node{file(129, 0, "g", "y"), file(257, 0, "f", data)}, 0, then(gone("/g", "/f"), came("/f", "/g")))
	}
	// A file, and a directory, of one stamp.
	wantEvents(t, []api.Node{in7(128, 0, "x")}, []api.Node{in7(129, 0, "x")}, 0, then(gone("/x"), came("/x")))
	// Below a directory of another number nothing of the same number stays, whose paths stay as they were.
	a := []api.Node{in7(128, 0, "d"), in7(256, 0, "e"), file(385, 128, "f", "x")}
	b := []api.Node{in7(128, 0, "e"), in7(256, 0, "d"), file(385, 256, "f", "x")}
	wantEvents(t, a, b, 0, then(gone("/e", "/d"), came("/d", "/e")))
	b[2].Data = "y"
	wantEvents(t, a, b, 0, then(gone("/e", "/d"), came("/d", "/e"), wrote("/d/f")))
}

// P9.1: of nodes of one name the one that is seen is told: who hides another one is told as the one that came.
func TestHidden(t *testing.T) {
	early := []api.Node{in7(128, 0, "x"), file(257, 128, "f", "1")}
	late := api.Node{ID: 384, Name: "x", Moved: at(8, 0)}
	both := with(early, late, file(513, 384, "g", "2"))
	wantEvents(t, early, both, 0, then(gone("/x/f", "/x"), came("/x", "/x/g")))
	wantEvents(t, both, early, 0, then(gone("/x/g", "/x"), came("/x", "/x/f")))
	// What hides another one is moved away.
	wantEvents(t, both, with(both, in7(384, 0, "y")), 0, then(gone("/x/g", "/x"), came("/x", "/x/f", "/y", "/y/g")))
	// What is hidden changes, and nobody sees it; who looks from it sees it.
	hidden := with(both, file(257, 128, "f", "3"), in7(640, 128, "new"))
	wantEvents(t, both, hidden, 0, nil)
	wantEvents(t, both, hidden, 128, then(came("/new"), wrote("/f")))
	// One that comes, and is hidden at once.
	wantEvents(t, both, with(both, api.Node{ID: 640, Name: "x", Moved: at(6, 0)}), 0, nil)
}

// P9.1: first what is gone, the last one first, then what came, then what was written, each in order, whatever the
// numbers, the times, and the bytes of the paths are.
func TestOrder(t *testing.T) {
	a := []api.Node{
		in7(128, 0, "m"), file(131, 128, "z", "1"), file(133, 0, "m-", "1"), in7(256, 0, "c"), file(259, 256, "2", "1"), in7(260, 256, "1"), in7(262, 0, "c "), file(265, 0, "a", "1"), file(267, 0, "\uffff", "1"),
		file(269, 0, "\U00010000", "1"), file(271, 128, "B", "1"),
	}
	b := []api.Node{
		in7(128, 0, "m"), file(131, 128, "z", "2"), file(133, 0, "m-", "2"), file(265, 0, "a", "2"), file(267, 0, "\uffff", "2"), file(269, 0, "\U00010000", "2"), file(271, 128, "B", "2"),
		in7(384, 0, "b"), in7(386, 384, "y"), file(389, 386, "9", ""), in7(390, 384, "Y"), file(393, 0, "b!", ""), file(395, 0, "0", ""), in7(512, 128, "n"),
	}
	came1, wrote1 := []string{"/0", "/b", "/b/Y", "/b/y", "/b/y/9", "/b!", "/m/n"}, []string{"/a", "/m/B", "/m/z", "/m-", "/\uffff", "/\U00010000"}
	gone1 := []string{"/c ", "/c/2", "/c/1", "/c"}
	wantEvents(t, a, b, 0, then(gone(gone1...), came(came1...), wrote(wrote1...)))
	wantEvents(t, b, a, 0, then(gone(reversed(came1)...), came(reversed(gone1)...), wrote(wrote1...)))
}

// P9.1: a directory that is there on one side alone, on neither, and numbers that are no directory's: what is told is of
// what view.Items tells.
func TestDirs(t *testing.T) {
	l := someTree()
	wantEvents(t, without(l, 128, 130, 133, 256, 257, 384), l, 128, came("/b", "/b/c", "/b/c/d", "/b/c/f", "/b/f"))
	// A directory that is not there itself, though nodes are in it.
	wantEvents(t, without(l, 768), l, 768, nil)
	wantEvents(t, l, with(l, in7(773, 900, "k")), 900, came("/k"))
	for _, dir := range []int{384, 896, 1024, 1, -2, last + 1, math.MaxInt, math.MinInt, 133, 641, api.Nowhere} {
		wantEvents(t, l, without(l, 128, 896), dir, nil)
		wantEvents(t, nil, l, dir, nil)
	}
	// Hand-made nodes in a file, in Nowhere, and in what is no number.
	for _, dir := range []int{133, 129, api.Nowhere, 1, -2, 127, last, last + 1, math.MaxInt, math.MinInt} {
		more := with(l, in7(1024, dir, "x"), file(1025, 1024, "y", ""))
		wantEvents(t, l, more, dir, came("/x", "/x/y"))
		wantEvents(t, more, l, dir, gone("/x/y", "/x"))
		wantEvents(t, l, more, 0, nil)
	}
	// A ring, which no operation makes.
	ring := []api.Node{in7(128, 384, "a"), in7(256, 128, "b"), in7(384, 256, "c"), in7(512, 256, "d")}
	wantEvents(t, nil, ring, 0, nil)
	wantEvents(t, nil, ring, 128, nil)
	wantEvents(t, nil, ring, 256, came("/d"))
	wantEvents(t, with(ring, in7(256, 0, "b")), ring, 256, then(gone("/c/a", "/c")))
}

// noneLists are nodes that may not be, in each of which something would be seen.
func noneLists() [][]api.Node {
	a := in7(128, 0, "a")
	l := [][]api.Node{{a, a}, {in7(256, 0, "b"), a}, append(someTree(), a), append(someTree(), someTree()...)}
	for _, id := range []int{0, 1, 2, 127, -1, -128, 128 * 1048577, math.MaxInt, math.MinInt} {
		l = append(l, []api.Node{in7(id, 0, "a")}, []api.Node{a, in7(id, 128, "b")}, []api.Node{in7(id, 0, "b"), a})
	}
	return l
}

// P9.1: of nodes that may not be there is nothing, on either side.
func TestMayNotBe(t *testing.T) {
	l, paths := someTree(), treePaths()
	for _, none := range noneLists() {
		wantEvents(t, none, l, 0, came(paths...))
		wantEvents(t, l, none, 0, gone(reversed(paths)...))
		for _, dir := range append(someDirs(), none[0].ID, none[0].Parent) {
			wantEvents(t, none, none, dir, nil)
			wantEvents(t, none, nil, dir, nil)
			wantEvents(t, nil, none, dir, nil)
			wantEvents(t, none, l, dir, Of(nil, l, dir))
			wantEvents(t, l, none, dir, Of(l, nil, dir))
		}
	}
}

// Of nodes with a Name that is none there is some answer, that is the same each time; where no such one is in a directory
// all is as ever.
func TestNoNames(t *testing.T) {
	r := rand.New(rand.NewSource(1))
	texts := []string{"", ".", "..", "/", "a/b", "b", "/a", "a/", noRunes, "\x00", "\u007f", strings.Repeat("n", 21), strings.Repeat("/", 1000)}
	for range 500 {
		lists := [2][]api.Node{}
		for k := range lists {
			for i := range 12 {
				if r.Intn(4) > 0 {
					lists[k] = append(lists[k], file(128*(i+1)+r.Intn(2), 128*r.Intn(i+1), texts[r.Intn(len(texts))], texts[r.Intn(3)]))
				}
			}
		}
		for _, dir := range []int{0, 128, 512} {
			e := Of(lists[0], lists[1], dir)
			for range 3 {
				wantEvents(t, lists[0], lists[1], dir, e)
			}
			Play(texts, e)
		}
	}
	l := someTree()
	for _, s := range texts {
		n := api.Node{ID: 1025, Name: s, Moved: at(0, 9)}
		wantEvents(t, with(l, n), without(l, 896), 0, gone("/A"))
	}
}

// P9.2: what is gone is taken out, what came is put in, one event behind the other, all else does nothing.
func TestPlay(t *testing.T) {
	l := []string{"/b", "/a/c", "/a"}
	for _, c := range []struct {
		e    []api.Event
		want string
	}{
		{nil, "/a /a/c /b"}, {[]api.Event{}, "/a /a/c /b"},
		{gone("/a"), "/a/c /b"}, {gone("/b", "/a"), "/a/c"}, {gone("/a", "/a/c", "/b"), ""}, {gone("/a", "/a"), "/a/c /b"},
		{came("/c"), "/a /a/c /b /c"}, {came("/A", "/a/b", "/0"), "/0 /A /a /a/b /a/c /b"}, {came("/c", "/c"), "/a /a/c /b /c"},
		// What is not there is not taken out, and what is there is there once.
		{gone("/c", "", "a", "/", "/a/", "/A"), "/a /a/c /b"}, {came("/a", "/b", "/a/c"), "/a /a/c /b"},
		// The later one holds.
		{then(gone("/a"), came("/a")), "/a /a/c /b"}, {then(came("/c"), gone("/c")), "/a /a/c /b"}, {then(came("/a"), gone("/a")), "/a/c /b"}, {then(gone("/c"), came("/c"), gone("/b")), "/a /a/c /c"},
		{then(gone("/a"), came("/a"), gone("/a")), "/a/c /b"}, {then(came("/x"), gone("/x"), came("/x")), "/a /a/c /b /x"},
		// What is written, or lost, changes nothing, nor do kinds that are none.
		{wrote("/a", "/x", ""), "/a /a/c /b"}, {[]api.Event{{Kind: api.EOver}}, "/a /a/c /b"}, {then(events(9, []string{"/a", "/x"}), came("/y")), "/a /a/c /b /y"},
		{then(events(0, []string{"/a", "/x"}), events(4, []string{"/a", "/x"}), events(-1, []string{"/a", "/x"}), events(8, []string{"/a"}), events(10, []string{"/x"})), "/a /a/c /b"},
		{then(events(math.MaxInt, []string{"/a", "/x"}), events(math.MinInt, []string{"/a", "/x"}), events(257, []string{"/a"}), events(258, []string{"/x"})), "/a /a/c /b"},
	} {
		wantTexts(t, l, c.e, strings.Fields(c.want))
		wantTexts(t, slices.Concat(l, l, l[1:]), c.e, strings.Fields(c.want))
		wantTexts(t, slices.Concat(l[2:], l), c.e, strings.Fields(c.want))
	}
}

// P9.2: of no texts what came is there, and what is there twice is there once.
func TestPlayNothing(t *testing.T) {
	for _, none := range [][]string{nil, {}, make([]string, 0, 4)} {
		for _, e := range [][]api.Event{nil, {}, gone("/a", ""), wrote("/a", ""), {{}, {Kind: 9}, {Kind: 4, Path: "/a"}}, then(came("/a"), gone("/a"))} {
			wantTexts(t, none, e, nil)
		}
		wantTexts(t, none, came("/b", "/a", "/b"), []string{"/a", "/b"})
		wantTexts(t, none, came(""), []string{""})
	}
	wantTexts(t, []string{"/a", "/a"}, nil, []string{"/a"})
	wantTexts(t, []string{"/b", "/a", "/b", "/a", "/b"}, nil, []string{"/a", "/b"})
	wantTexts(t, []string{"/a", "/a"}, gone("/a"), nil)
	wantTexts(t, []string{"", ""}, gone(""), nil)
	wantTexts(t, []string{"/a", "/a"}, then(gone("/a"), came("/a")), []string{"/a"})
}

// P9.2: texts rise by their bytes, whatever they are: paths or not, with runes or without, and not by name.Less.
func TestBytesRise(t *testing.T) {
	row := []string{
		"", "\x00", "\x00\x00", "\n", " ", ".", "/", "/ ", "//", "/A", "/Z", "/a", "/a ", "/a-", "/a.", "/a/", "/a/b", "/a0", "/aa", "/b", "0", "A", "a", "\u007f", "\x80", "\x80a", "\u00e4", "\xc3\xff", "\u07ff", "\u0800",
		"\ud7ff", "\xed\xa0\x80", "\ue000", "\ufffd", "\uffff", "\U00010000", "\U0010ffff", "\xf5", "\xfe", "\xff", "\xff\x00", "\xff\xff",
	}
	r := rand.New(rand.NewSource(2))
	for range 300 {
		var l, kept []string
		var e []api.Event
		for _, i := range r.Perm(len(row)) {
			switch r.Intn(4) {
			case 0:
				l = append(l, row[i])
			case 1:
				e = append(e, api.Event{Kind: api.ECame, Path: row[i]})
			case 2:
				l, e = append(l, row[i], row[i]), append(e, api.Event{Kind: api.EGone, Path: row[i]})
			}
		}
		for _, s := range row {
			is := func(e api.Event) bool { return e.Path == s }
			i := slices.IndexFunc(e, is)
			if i >= 0 && e[i].Kind == api.ECame || i < 0 && slices.Contains(l, s) {
				kept = append(kept, s)
			}
		}
		wantTexts(t, l, e, kept)
		if t.Failed() {
			t.FailNow()
		}
	}
	wantTexts(t, row, nil, row)
	wantTexts(t, nil, came(row...), row)
}

// The chapter's example: /a, and /a/b, are gone, the last one first, and /c came.
func TestExample(t *testing.T) {
	a := tree.Fold([]api.Op{{At: at(1, 0), Kind: api.OMove, Node: 128, Name: "a"}, {At: at(2, 0), Kind: api.OMove, Node: 257, Parent: 128, Name: "b"}})
	b := tree.Fold([]api.Op{{At: at(3, 0), Kind: api.OMove, Node: 384, Name: "c"}})
	want := then(gone("/a/b", "/a"), came("/c"))
	wantEvents(t, a, b, api.Root, want)
	wantTexts(t, []string{"/a", "/a/b"}, want, []string{"/c"})
}

// someNodes are nodes that may be, made by hand: of few numbers, names and times, in any directories, rings among them.
func someNodes(r *rand.Rand) []api.Node {
	var l []api.Node
	often := 1 + r.Intn(3)
	for c := 1; c <= 7; c++ {
		for k := range 4 {
			if r.Intn(4) >= often {
				continue
			}
			parent := []int{0, 128 * r.Intn(8), 128 * r.Intn(8), 128*(1+r.Intn(7)) + r.Intn(4), someDirs()[r.Intn(len(someDirs()))]}[r.Intn(5)]
			n := api.Node{ID: 128*c + k, Parent: parent, Name: []string{"a", "b", "c", "\u00e4", "\U0010ffff", "\uffff", "a."}[r.Intn(7)], Moved: at(1+r.Intn(3), r.Intn(2)), Data: "dd"[:r.Intn(3)]}
			if r.Intn(8) == 0 {
				n.Moved = at(r.Intn(2), 63+r.Intn(2))
			}
			l = append(l, n)
		}
	}
	return l
}

// someOps are operations of few nodes and names, so that some hide others, and some do nothing.
func someOps(r *rand.Rand, from, n int) []api.Op {
	var l []api.Op
	for i := range n {
		o := api.Op{At: at(from+i, r.Intn(3)), Kind: api.OMove, Node: 128*(1+r.Intn(7)) + r.Intn(4), Parent: 128 * r.Intn(8), Name: "abc"[r.Intn(3):][:1]}
		switch r.Intn(6) {
		case 0:
			o = api.Op{At: o.At, Kind: api.OWrite, Node: o.Node | 1, Data: o.Name}
		case 1:
			o.Parent = api.Trash
		case 2:
			o.Parent = api.Root
		}
		l = append(l, o)
	}
	return l
}

// someChange is nodes, and what becomes of them: by some operations more, or by hand.
func someChange(r *rand.Rand) (a, b []api.Node) {
	if r.Intn(2) == 0 {
		l := someOps(r, 8, 1+r.Intn(40))
		return tree.Fold(l), tree.Fold(append(l, someOps(r, 60, r.Intn(8))...))
	}
	a = someNodes(r)
	b = slices.Clone(a)
	for range r.Intn(6) {
		l := someNodes(r)
		if len(l) > 0 {
			b = with(b, l[r.Intn(len(l))])
		}
		if len(b) > 0 {
			b[r.Intn(len(b))].Data = "ddd"[:r.Intn(4)]
		}
	}
	return a, b
}

// somePaths are texts that are put, and taken, in the tests of Play.
func somePaths() []string { return []string{"/a", "/b", "/a/a", "/a/b", "/a.", "/\u00e4", "", noRunes} }

// P9.1, P9.2: of many nodes, and events, all is as the words say, done one by one.
func TestByWords(t *testing.T) {
	r := rand.New(rand.NewSource(3))
	told := map[int]int{}
	for range 1000 {
		a, b := someChange(r)
		for _, dir := range someDirs() {
			want := wantOf(a, b, dir)
			wantEvents(t, a, b, dir, want)
			for _, e := range want {
				told[e.Kind]++
			}
		}
		var l []string
		var e []api.Event
		for range r.Intn(8) {
			l = append(l, somePaths()[r.Intn(8)])
		}
		for range r.Intn(12) {
			e = append(e, api.Event{Kind: []int{1, 2, 1, 2, 3, 9, 0, 5}[r.Intn(8)], Path: somePaths()[r.Intn(8)]})
		}
		wantTexts(t, l, e, wantPlay(l, e))
		if t.Failed() {
			t.FailNow()
		}
	}
	if told[api.EGone] < 1000 || told[api.ECame] < 1000 || told[api.EWrote] < 100 {
		t.Errorf("too few were tried: %v", told)
	}
}

// paths are those of items, ofKind those of events.
func paths(l []api.Item) []string {
	var all []string
	for _, item := range l {
		all = append(all, item.Path)
	}
	return all
}

func ofKind(kind int, e []api.Event) []string {
	var all []string
	for _, event := range e {
		if event.Kind == kind {
			all = append(all, event.Path)
		}
	}
	return all
}

// P9.3: of the same nodes there is none; the other way round what is gone came, and what was written was written; the
// paths that were there, behind the events, are those that are there.
func TestFollows(t *testing.T) {
	r := rand.New(rand.NewSource(4))
	for range 1000 {
		a, b := someChange(r)
		for _, dir := range someDirs() {
			e, back := Of(a, b, dir), Of(b, a, dir)
			if len(Of(a, slices.Clone(a), dir))+len(Of(b, b, dir)) > 0 {
				t.Fatalf("%v, %v, %d: %v, %v", a, b, dir, Of(a, a, dir), Of(b, b, dir))
			}
			if !slices.Equal(ofKind(1, e), reversed(ofKind(2, back))) || !slices.Equal(ofKind(2, e), reversed(ofKind(1, back))) || !slices.Equal(ofKind(3, e), ofKind(3, back)) {
				t.Fatalf("%v, %v, %d: %v, %v", a, b, dir, e, back)
			}
			was, is := paths(view.Items(a, dir)), paths(view.Items(b, dir))
			behind := Play(was, e)
			slices.Sort(is)
			if !slices.Equal(behind, is) {
				t.Fatalf("%v, %v, %d: %q, not %q", a, b, dir, behind, is)
			}
			slices.Sort(was)
			if again := Play(behind, back); !slices.Equal(again, was) {
				t.Fatalf("%v, %v, %d: %q, not %q", a, b, dir, again, was)
			}
		}
	}
}

// R4: the same is told each time, of the same nodes in other memory, and with spare room, in whatever order a map is
// gone through.
func TestSameAgain(t *testing.T) {
	r := rand.New(rand.NewSource(5))
	var a, b []api.Node
	var l []string
	for i := range 100 {
		a, b = append(a, file(128*(i+1)+1, 0, "a"+string(rune(0x4e00+i)), "x")), append(b, file(128*(i+1)+1, 0, []string{"a", "b"}[i%2]+string(rune(0x4e00+i)), "xy"[:1+i/2%2]))
		l = append(l, b[r.Intn(len(b))].Name)
	}
	e := Of(a, b, 0)
	texts := Play(l, e)
	if len(e) != 125 || !slices.IsSorted(texts) {
		t.Fatalf("%d, %q", len(e), texts)
	}
	for i := range 100 {
		wantEvents(t, append(make([]api.Node, 0, 100+i), a...), append(make([]api.Node, 0, 200-i), b...), 0, e)
		wantTexts(t, append(make([]string, 0, 100+i), l...), append(make([]api.Event, 0, 125+i), e...), texts)
		r.Shuffle(len(l), func(i, j int) { l[i], l[j] = l[j], l[i] })
	}
}

// apart tells whether two texts share no byte of memory.
func apart(a, b string) bool {
	if a == "" || b == "" {
		return true
	}
	x, y := uintptr(unsafe.Pointer(unsafe.StringData(a))), uintptr(unsafe.Pointer(unsafe.StringData(b)))
	return x+uintptr(len(a)) <= y || y+uintptr(len(b)) <= x
}

// owned is l, each text in memory of its own.
func owned(l []string) []string {
	l = slices.Clone(l)
	for i, s := range l {
		l[i] = strings.Clone(s)
	}
	return l
}

// R3: Of changes nothing that is handed in, its spare room included, whatever becomes of the answer; two answers share
// nothing, and no text of an answer is in the memory of a node's.
func TestMemoryOf(t *testing.T) {
	r := rand.New(rand.NewSource(6))
	for range 200 {
		a, b := someChange(r)
		wholes := [2][]api.Node{with(a, in7(last, 0, strings.Clone("spare"))), with(b, in7(last, 0, strings.Clone("room")))}
		a, b = wholes[0][:len(a)], wholes[1][:len(b)]
		for i := range a {
			a[i].Name, a[i].Data = strings.Clone(a[i].Name), strings.Clone(a[i].Data)
		}
		wasA, wasB := slices.Clone(wholes[0]), slices.Clone(wholes[1])
		for _, dir := range someDirs() {
			e, other := Of(a, b, dir), Of(a, b, dir)
			want := slices.Clone(other)
			for _, event := range e {
				for _, n := range slices.Concat(a, b) {
					if !apart(event.Path, n.Name) || !apart(event.Path, n.Data) {
						t.Fatalf("%v, %v, %d: the path %q is a node's", a, b, dir, event.Path)
					}
				}
			}
			clear(e[:cap(e)])
			if !slices.Equal(other, want) || !slices.Equal(wholes[0], wasA) || !slices.Equal(wholes[1], wasB) {
				t.Fatalf("%v, %v, %d: memory is shared, or was changed", wasA, wasB, dir)
			}
		}
	}
}

// R3: Play changes nothing that is handed in, and its answers share nothing, with another one, or with that.
func TestMemoryPlay(t *testing.T) {
	l := owned(append(somePaths(), "/a", "/b", "/z", "/y"))
	e := events(2, owned([]string{"/n", "/a", "/m", "", "/n"}))
	for n := range len(l) - 1 {
		for k := range len(e) {
			wasL, wasE := slices.Clone(l), slices.Clone(e)
			got, other := Play(l[:n], e[:k]), Play(l[:n], e[:k])
			want := slices.Clone(other)
			for i, s := range got {
				given := func(given string) bool { return !apart(s, given) }
				if slices.ContainsFunc(l, given) || slices.ContainsFunc(e, func(e api.Event) bool { return given(e.Path) }) || !apart(s, other[i]) {
					t.Fatalf("%d, %d: the text %q is not its own", n, k, s)
				}
			}
			clear(got[:cap(got)])
			if !slices.Equal(other, want) || !slices.Equal(l, wasL) || !slices.Equal(e, wasE) {
				t.Fatalf("%d, %d: memory is shared, or was changed", n, k)
			}
		}
	}
}

// R1: of nodes, numbers, and events made by hand there is some answer, and it ends.
func TestHandMade(t *testing.T) {
	r := rand.New(rand.NewSource(7))
	for range 2000 {
		a, b := someChange(r)
		for range r.Intn(3) {
			n := in7(someDirs()[r.Intn(len(someDirs()))], someDirs()[r.Intn(len(someDirs()))], strings.Repeat("/", r.Intn(30)))
			b = slices.Insert(b, r.Intn(len(b)+1), n)
		}
		dir := someDirs()[r.Intn(len(someDirs()))]
		e := Of(a, b, dir)
		if !tree.Check(b) && !slices.Equal(e, Of(a, nil, dir)) {
			t.Fatalf("%v, %v, %d: %v", a, b, dir, e)
		}
		wrong := func(n api.Node) bool { return stamp.Check(n.Moved) && !name.Check(n.Name) }
		if !slices.ContainsFunc(b, wrong) {
			wantEvents(t, a, b, dir, wantOf(a, b, dir))
		}
		Play(paths(view.Items(b, dir)), append(e, api.Event{Kind: r.Intn(12) - 1, Path: noRunes}))
	}
}

// R1: all calls end, in a time that is bearable: of very many nodes in one directory, and in a row, and of very many
// texts, and events.
func TestMany(t *testing.T) {
	began := time.Now()
	const n = 100000
	var wide, other, deep []api.Node
	var l []string
	for i := range n {
		wide, other = append(wide, in7(128*(i+1), 0, "a"+string(rune(0x10000+i)))), append(other, in7(128*(i+1), 0, "b"+string(rune(0x10000+i))))
		l = append(l, "/a"+string(rune(0x10000+i)), "/x")
	}
	e := Of(wide, other, 0)
	if len(e) != 2*n || e[0] != (api.Event{Kind: api.EGone, Path: l[2*n-2]}) || e[n] != (api.Event{Kind: api.ECame, Path: "/b\U00010000"}) {
		t.Errorf("%d", len(e))
	}
	if got := Play(l, e); len(got) != n+1 || got[0] != "/b\U00010000" || got[n] != "/x" {
		t.Errorf("%d", len(got))
	}
	for i := range 3000 {
		deep = append(deep, in7(128*(i+1), 128*i, "n"))
	}
	moved := with(deep, in7(128, 0, "m"))
	if e = Of(deep, moved, 0); len(e) != 6000 || e[0].Path != strings.Repeat("/n", 3000) || e[5999].Path != "/m"+strings.Repeat("/n", 2999) {
		t.Errorf("%d", len(e))
	}
	if took := time.Since(began); took > 20*time.Second {
		t.Errorf("took %v", took)
	}
}
