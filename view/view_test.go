package view

import (
	"math"
	"math/rand"
	"slices"
	"strings"
	"testing"
	"time"
	"unsafe"

	"gunwale/api"
	"gunwale/name"
	"gunwale/stamp"
	"gunwale/tree"
)

// at is a stamp.
func at(counter, replica int) api.Stamp { return api.Stamp{Counter: counter, Replica: replica} }

// in7 is a node in a directory, by a name, moved at the Counter 7.
func in7(id, parent int, s string) api.Node {
	return api.Node{ID: id, Parent: parent, Name: s, Moved: at(7, 0)}
}

// with is l and more, by rising IDs.
func with(l []api.Node, more ...api.Node) []api.Node {
	l = append(slices.Clone(l), more...)
	slices.SortFunc(l, func(a, b api.Node) int { return a.ID - b.ID })
	return l
}

// noRunes is a text that has no runes, last the greatest number of a file.
const (
	noRunes = "\xff"
	last    = 128*1048577 - 1
)

// someTree is nodes of several levels, files and directories, in Root, in Trash, Nowhere, and in what is not there.
func someTree() []api.Node {
	return []api.Node{
		{ID: 128, Name: "a", Moved: at(1, 0)},
		{ID: 130, Parent: 128, Name: "b", Moved: at(7, 2)},
		{ID: 133, Parent: 130, Name: "f", Moved: at(8, 1), Data: "text", Wrote: at(9, 1)},
		{ID: 256, Parent: 130, Name: "c", Moved: at(4, 4)},
		{ID: 257, Parent: 256, Name: "f", Moved: at(5, 0), Data: "\x00\xff", Wrote: at(5, 1)},
		{ID: 384, Parent: 256, Name: "d", Moved: at(3, 0)},
		{ID: 512, Parent: api.Trash, Name: "old", Moved: at(11, 0)},
		{ID: 515, Parent: 512, Name: "e", Moved: at(4, 1), Data: "gone", Wrote: at(4, 2)},
		{ID: 641, Parent: api.Nowhere, Data: "early", Wrote: at(5, 0)},
		{ID: 768, Parent: 900, Name: "g", Moved: at(7, 7)},
		{ID: 771, Parent: 768, Name: "h", Moved: at(12, 3)},
		{ID: 896, Name: "A", Moved: at(7, 0)},
		{ID: last, Name: "a.", Moved: at(1048576, 63), Data: noRunes, Wrote: at(1048576, 63)},
	}
}

// treeItems is what is seen of someTree below Root.
func treeItems() []api.Item {
	return []api.Item{
		{Path: "/A", ID: 896}, {Path: "/a", ID: 128}, {Path: "/a/b", ID: 130}, {Path: "/a/b/c", ID: 256}, {Path: "/a/b/c/d", ID: 384},
		{Path: "/a/b/c/f", ID: 257, Data: "\x00\xff"}, {Path: "/a/b/f", ID: 133, Data: "text"}, {Path: "/a.", ID: last, Data: noRunes},
	}
}

// noneLists are nodes that may not be, in each of which something would be seen.
func noneLists() [][]api.Node {
	a := in7(128, 0, "a")
	l := [][]api.Node{
		{a, a}, {in7(256, 0, "b"), a}, {a, in7(256, 128, "b"), in7(256, 128, "b")}, append(someTree(), a), append(someTree(), someTree()...),
		{a, in7(384, 128, "c"), in7(256, 128, "b")},
	}
	for _, id := range []int{0, 1, 2, 3, 127, -1, -2, -128, 128 * 1048577, 1 << 40, math.MaxInt, math.MinInt} {
		l = append(l, []api.Node{in7(id, 0, "a")}, []api.Node{a, in7(id, 128, "b")}, []api.Node{in7(id, 0, "b"), a})
	}
	return l
}

// someDirs are numbers of directories, of files, and of none, there and not.
func someDirs() []int {
	return []int{0, 2, -1, -2, 1, 3, 127, 128, 129, 130, 133, 256, 257, 384, 512, 515, 641, 768, 771, 896, 900, 1024, last, last + 1, math.MaxInt, math.MinInt}
}

// wantIn, and the others below, tell by the words what is asked for, slowly: what is in dir.
func wantIn(l []api.Node, dir int) []api.Node {
	var all []api.Node
	for _, n := range l {
		if tree.Check(l) && n.Parent == dir && n.Moved.Counter >= 1 && n.Moved.Counter <= 1048576 && n.Moved.Replica >= 0 && n.Moved.Replica <= 63 {
			all = append(all, n)
		}
	}
	return all
}

// wantChild is the node behind whose Moved, and ID, all others of its name stand.
func wantChild(l []api.Node, dir int, s string) (int, bool) {
	weight := func(n api.Node) []int { return []int{n.Moved.Counter, n.Moved.Replica, n.ID} }
	for _, n := range wantIn(l, dir) {
		above := func(other api.Node) bool {
			return other.Name == s && slices.Compare(weight(other), weight(n)) > 0
		}
		if n.Name == s && !slices.ContainsFunc(wantIn(l, dir), above) {
			return n.ID, true
		}
	}
	return 0, false
}

// wantList puts each name behind those that stand ahead of it.
func wantList(l []api.Node, dir int) []string {
	var names []string
	for _, n := range wantIn(l, dir) {
		if slices.Contains(names, n.Name) {
			continue
		}
		i := 0
		for i < len(names) && name.Less(names[i], n.Name) {
			i++
		}
		names = slices.Insert(names, i, n.Name)
	}
	return names
}

func wantFind(l []api.Node, names []string) (int, api.Errno) {
	if len(names) == 0 {
		return 0, api.OK
	}
	above := len(names) - 1
	dir, e := wantFind(l, names[:above])
	id, there := wantChild(l, dir, names[above])
	switch {
	case e != api.OK:
		return 0, e
	case !stamp.Dir(dir):
		return 0, api.ErrDir
	case !there:
		return 0, api.ErrNone
	}
	return id, api.OK
}

// wantWay goes up from n to dir: the names on the way, and whether n is seen below dir.
func wantWay(l []api.Node, n api.Node, dir int) ([]string, bool) {
	leftOut := append(tree.Above(l, dir), dir)
	var names []string
	for range l {
		id, there := wantChild(l, n.Parent, n.Name)
		if !there || id != n.ID || slices.Contains(leftOut, n.ID) {
			return nil, false
		}
		names = slices.Insert(names, 0, n.Name)
		if n.Parent == dir {
			return names, true
		}
		if n, there = tree.Find(l, n.Parent); !there || !stamp.Dir(n.ID) {
			return nil, false
		}
	}
	return nil, false
}

// wantItems puts each node that is seen behind those whose names on the way stand ahead of its own.
func wantItems(l []api.Node, dir int) []api.Item {
	var ways [][]string
	var all []api.Item
	for _, n := range l {
		way, is := wantWay(l, n, dir)
		if !is {
			continue
		}
		i := 0
		for i < len(ways) && slices.CompareFunc(ways[i], way, wantOrder) < 0 {
			i++
		}
		ways = slices.Insert(ways, i, way)
		all = slices.Insert(all, i, api.Item{Path: "/" + strings.Join(way, "/"), ID: n.ID, Data: n.Data})
	}
	return all
}

func wantOrder(a, b string) int {
	switch {
	case a == b:
		return 0
	case name.Less(a, b):
		return -1
	}
	return 1
}

// wantAll looks whether all that is told of l is as the words say.
func wantAll(t *testing.T, l []api.Node) {
	t.Helper()
	for _, dir := range someDirs() {
		names := List(l, dir)
		if !slices.Equal(names, wantList(l, dir)) {
			t.Fatalf("%v, %d: %q, not %q", l, dir, names, wantList(l, dir))
		}
		for _, s := range append(names, "", "a", "b", "zz", noRunes) {
			id, is := Child(l, dir, s)
			if want, wantIs := wantChild(l, dir, s); id != want || is != wantIs {
				t.Fatalf("%v, %d, %q: %d, %v, not %d, %v", l, dir, s, id, is, want, wantIs)
			}
		}
		if items := Items(l, dir); !slices.Equal(items, wantItems(l, dir)) {
			t.Fatalf("%v, %d: %v, not %v", l, dir, items, wantItems(l, dir))
		}
	}
}

// wantFound looks whether Find of some names is as the words say, and tells the error.
func wantFound(t *testing.T, l []api.Node, names []string) api.Errno {
	t.Helper()
	id, e := Find(l, names)
	if want, wantE := wantFind(l, names); id != want || e != wantE {
		t.Fatalf("%v, %q: %d, %v, not %d, %v", l, names, id, e, want, wantE)
	}
	return e
}

// P8.1: the node that is seen by a name, wherever it is, and none by any other name.
func TestChild(t *testing.T) {
	l := someTree()
	for _, c := range []struct {
		dir  int
		s    string
		want int
	}{
		{0, "a", 128}, {0, "A", 896}, {0, "a.", last}, {128, "b", 130}, {130, "f", 133}, {256, "f", 257}, {130, "c", 256}, {256, "d", 384}, {api.Trash, "old", 512}, {512, "e", 515},
		{900, "g", 768}, {768, "h", 771},
	} {
		if id, is := Child(l, c.dir, c.s); id != c.want || !is {
			t.Errorf("%d, %q: %d, %v", c.dir, c.s, id, is)
		}
	}
	for _, c := range []struct {
		dir int
		s   string
	}{
		{0, "b"}, {0, "f"}, {0, ""}, {0, "."}, {0, ".."}, {0, "/"}, {0, "/a"}, {0, "aa"}, {0, noRunes}, {0, "old"}, {0, "g"}, {0, strings.Repeat("a", 1000)}, {128, "a"}, {128, "f"}, {130, "b"}, {130, "d"},
		{384, "d"}, {384, "f"}, {133, "f"}, {api.Trash, "e"}, {api.Trash, "a"}, {api.Nowhere, ""}, {api.Nowhere, "a"}, {641, ""}, {900, "a"}, {1024, "a"}, {1, "a"}, {math.MinInt, "a"}, {math.MaxInt, "a"},
	} {
		if id, is := Child(l, c.dir, c.s); id != 0 || is {
			t.Errorf("%d, %q: %d, %v", c.dir, c.s, id, is)
		}
	}
}

// P8.1: the names of a directory, and of one with nothing in it.
func TestList(t *testing.T) {
	l := someTree()
	for dir, want := range map[int][]string{0: {"A", "a", "a."}, 128: {"b"}, 130: {"c", "f"}, 256: {"d", "f"}, api.Trash: {"old"}, 512: {"e"}, 900: {"g"}, 768: {"h"}} {
		if names := List(l, dir); !slices.Equal(names, want) {
			t.Errorf("%d: %q", dir, names)
		}
	}
	for _, dir := range []int{384, 896, 133, 257, 515, 641, last, api.Nowhere, 1, -2, 1024, math.MaxInt, math.MinInt} {
		if names := List(l, dir); len(names) != 0 {
			t.Errorf("%d: %q", dir, names)
		}
	}
}

// P8.1: names rise by name.Less: neither by IDs, nor by times, nor by how long they are, nor by their bytes alone.
func TestNamesRise(t *testing.T) {
	row := []string{
		" ", "-", "A", "AZ", "Z", "a", "a b", "a.", "aa", "aaa", "ab", "b", "~", "\u00e4", "\u07ff", "\u0800", "\u20ac", "\ud7ff", "\ue000", "\ufffd", "\uffff", "\U00010000", "\U0001f600", "\U0010ffff",
		"A\xff", "a\x80", "\x80", "\xed\xa0\x80", "\xff", "\xff\xff",
	}
	r := rand.New(rand.NewSource(1))
	for range 200 {
		var l []api.Node
		var items []api.Item
		for i, k := range r.Perm(len(row)) {
			l = append(l, api.Node{ID: 129 + 2*i, Parent: 256, Name: row[k], Moved: at(1+r.Intn(9), r.Intn(3))})
		}
		for _, s := range row {
			i := slices.IndexFunc(l, func(n api.Node) bool { return n.Name == s })
			items = append(items, api.Item{Path: "/" + s, ID: l[i].ID})
		}
		if names := List(l, 256); !slices.Equal(names, row) {
			t.Fatalf("%q, not %q", names, row)
		}
		if got := Items(l, 256); !slices.Equal(got, items) {
			t.Fatalf("%v, not %v", got, items)
		}
	}
}

// P8.1: of nodes of one name in one directory the one that was moved last is seen, of those of one Moved the one of the
// greatest ID, in whatever order their IDs stand; the name is there once.
func TestOneName(t *testing.T) {
	for i, c := range []struct {
		moved []api.Stamp
		want  int
	}{
		{[]api.Stamp{at(3, 0), at(5, 0)}, 1}, {[]api.Stamp{at(5, 0), at(3, 0)}, 0}, {[]api.Stamp{at(3, 1), at(3, 2)}, 1}, {[]api.Stamp{at(3, 2), at(3, 1)}, 0},
		{[]api.Stamp{at(3, 63), at(4, 0)}, 1}, {[]api.Stamp{at(4, 0), at(3, 63)}, 0}, {[]api.Stamp{at(3, 3), at(3, 3)}, 1}, {[]api.Stamp{at(3, 3), at(3, 3), at(3, 3)}, 2},
		{[]api.Stamp{at(1, 0), at(9, 0), at(5, 0)}, 1}, {[]api.Stamp{at(9, 0), at(9, 0), at(1, 0)}, 1}, {[]api.Stamp{at(9, 0), at(1, 0), at(9, 0)}, 2}, {[]api.Stamp{at(9, 1), at(9, 0), at(8, 5)}, 0},
		{[]api.Stamp{at(1, 0), at(2, 0), at(3, 0), at(4, 0)}, 3}, {[]api.Stamp{at(4, 0), at(3, 0), at(2, 0), at(1, 0)}, 0}, {[]api.Stamp{at(1048576, 63), at(1048576, 62), at(1, 0)}, 0},
		{[]api.Stamp{at(1, 0), at(1048577, 0)}, 0}, {[]api.Stamp{at(1, 0), at(9, 64)}, 0}, {[]api.Stamp{at(0, 9), at(1, 0), at(math.MaxInt, 0)}, 1}, {[]api.Stamp{at(9, -1), at(2, 0), {}}, 1},
	} {
		for _, step := range []int{128, 129, 2, 1} {
			var l []api.Node
			for k, s := range c.moved {
				l = append(l, api.Node{ID: 256 + k*step, Parent: 128, Name: "x", Moved: s, Data: string(rune('0' + k))})
			}
			l = with(l, in7(128, 0, "d"), in7(last, 0, "x"))
			want := api.Item{Path: "/x", ID: 256 + c.want*step, Data: string(rune('0' + c.want))}
			id, is := Child(l, 128, "x")
			found, e := Find(l, []string{"d", "x"})
			if id != want.ID || !is || found != want.ID || e != api.OK {
				t.Errorf("%d, %d: %d, %v, %d, %v, not %d", i, step, id, is, found, e, want.ID)
			}
			if names, items := List(l, 128), Items(l, 128); !slices.Equal(names, []string{"x"}) || !slices.Equal(items, []api.Item{want}) {
				t.Errorf("%d, %d: %q, %v", i, step, names, items)
			}
		}
	}
}

// P8.1: what was written, and never moved, is in no directory, and what was moved at no time that may be is not either.
func TestNeverMoved(t *testing.T) {
	for _, s := range []api.Stamp{{}, at(0, 1), at(-1, 0), at(1, -1), at(1, 64), at(1048577, 0), at(math.MaxInt, 0), at(math.MinInt, 0), at(1, math.MaxInt), at(1, math.MinInt)} {
		for _, dir := range []int{api.Root, api.Trash, api.Nowhere, 128, 384} {
			l := []api.Node{in7(128, 0, "d"), {ID: 257, Parent: dir, Moved: s, Data: "x", Wrote: at(5, 0)}, {ID: 258, Parent: dir, Name: "n", Moved: s}, in7(513, 258, "below")}
			want := []string(nil)
			if dir == api.Root {
				want = []string{"d"}
			}
			if names := List(l, dir); !slices.Equal(names, want) {
				t.Errorf("%v, %d: %q", s, dir, names)
			}
			for _, by := range []string{"", "n"} {
				if id, is := Child(l, dir, by); id != 0 || is {
					t.Errorf("%v, %d, %q: %d", s, dir, by, id)
				}
			}
			if items := Items(l, api.Root); !slices.Equal(items, []api.Item{{Path: "/d", ID: 128}}) {
				t.Errorf("%v, %d: %v", s, dir, items)
			}
			if items := Items(l, 258); !slices.Equal(items, []api.Item{{Path: "/below", ID: 513}}) {
				t.Errorf("%v, %d: %v", s, dir, items)
			}
		}
	}
	written := tree.Fold([]api.Op{{At: at(9, 0), Kind: api.OWrite, Node: 257, Data: "x"}})
	if len(written) != 1 || len(List(written, api.Nowhere))+len(List(written, api.Root))+len(Items(written, api.Root))+len(Items(written, api.Nowhere)) != 0 {
		t.Errorf("%v", written)
	}
}

// P8.2: what is found, and the error of the first name at which nothing is.
func TestFind(t *testing.T) {
	l := someTree()
	for _, c := range []struct {
		path string
		id   int
		e    api.Errno
	}{
		{"", 0, api.OK}, {"a", 128, api.OK}, {"A", 896, api.OK}, {"a.", last, api.OK}, {"a b", 130, api.OK}, {"a b f", 133, api.OK}, {"a b c", 256, api.OK}, {"a b c f", 257, api.OK}, {"a b c d", 384, api.OK},
		{"b", 0, api.ErrNone}, {"old", 0, api.ErrNone}, {"g", 0, api.ErrNone}, {"a a", 0, api.ErrNone}, {"a b c d e", 0, api.ErrNone}, {"A a", 0, api.ErrNone}, {"a x f", 0, api.ErrNone}, {"x a", 0, api.ErrNone},
		{"a. x", 0, api.ErrDir}, {"a. x y", 0, api.ErrDir}, {"a b f f", 0, api.ErrDir}, {"a b f .", 0, api.ErrDir}, {"a b c f a b c f", 0, api.ErrDir}, {"a b f x y z", 0, api.ErrDir},
		{".", 0, api.ErrNone}, {"..", 0, api.ErrNone}, {"a .", 0, api.ErrNone}, {"a b ..", 0, api.ErrNone}, {"/", 0, api.ErrNone}, {"/a", 0, api.ErrNone}, {"a/b", 0, api.ErrNone}, {noRunes, 0, api.ErrNone},
		{strings.Repeat("a ", 1000) + "a", 0, api.ErrNone}, {"a. " + strings.Repeat("a ", 1000) + "a", 0, api.ErrDir},
	} {
		names := strings.Fields(c.path)
		if id, e := Find(l, names); id != c.id || e != c.e {
			t.Errorf("%q: %d, %v", names, id, e)
		}
		wantFound(t, l, names)
	}
	for _, names := range [][]string{{""}, {"", "a"}, {"a", ""}, {"a", "", "b"}, {strings.Repeat("n", 1000)}} {
		if id, e := Find(l, names); id != 0 || e != api.ErrNone {
			t.Errorf("%q: %d, %v", names, id, e)
		}
	}
}

// P8.2: a path of more names than a path may have is found as well: nodes may stand deeper.
func TestFindDeep(t *testing.T) {
	l, names := deepTree(300)
	for n := range names {
		if id, e := Find(l, names[:n]); id != 128*n || e != api.OK {
			t.Fatalf("%d: %d, %v", n, id, e)
		}
	}
	if id, e := Find(l, append(names, "n")); id != 0 || e != api.ErrNone {
		t.Errorf("%d, %v", id, e)
	}
}

// deepTree is a row of directories, each in the one before, and their names.
func deepTree(n int) ([]api.Node, []string) {
	var l []api.Node
	for i := range n {
		l = append(l, in7(128*(i+1), 128*i, "n"))
	}
	return l, slices.Repeat([]string{"n"}, n)
}

// P8.3: all that is seen, of Root, of directories below it, of Trash, of one that is not there; nothing of others.
func TestItems(t *testing.T) {
	l, all := someTree(), treeItems()
	below := func(dir string, l []api.Item) []api.Item {
		var cut []api.Item
		for _, i := range l {
			cut = append(cut, api.Item{Path: strings.TrimPrefix(i.Path, dir), ID: i.ID, Data: i.Data})
		}
		return cut
	}
	for dir, want := range map[int][]api.Item{
		0: all, 128: below("/a", all[2:7]), 130: below("/a/b", all[3:7]), 256: below("/a/b/c", all[4:6]),
		api.Trash: {{Path: "/old", ID: 512}, {Path: "/old/e", ID: 515, Data: "gone"}}, 512: {{Path: "/e", ID: 515, Data: "gone"}},
		900: {{Path: "/g", ID: 768}, {Path: "/g/h", ID: 771}}, 768: {{Path: "/h", ID: 771}},
	} {
		if items := Items(l, dir); !slices.Equal(items, want) {
			t.Errorf("%d: %v, not %v", dir, items, want)
		}
	}
	for _, dir := range []int{384, 896, 133, 257, 515, 641, last, api.Nowhere, 1, -2, 1024, math.MaxInt, math.MinInt} {
		if items := Items(l, dir); len(items) != 0 {
			t.Errorf("%d: %v", dir, items)
		}
	}
	wantAll(t, l)
}

// P8.3: what is below a directory is right behind it, ahead of all names that are greater, whatever their bytes are.
func TestItemsInOrder(t *testing.T) {
	l := with(nil, in7(128, 0, "a"), in7(131, 0, "a "), in7(133, 0, "a-b"), in7(135, 0, "aa"), in7(256, 128, "z"), in7(259, 256, "\U0010ffff"), in7(261, 256, "\uffff"), in7(384, 0, "A"), in7(387, 384, "z"), in7(389, 128, "Z"))
	want := []api.Item{
		{Path: "/A", ID: 384}, {Path: "/A/z", ID: 387}, {Path: "/a", ID: 128}, {Path: "/a/Z", ID: 389}, {Path: "/a/z", ID: 256}, {Path: "/a/z/\uffff", ID: 261}, {Path: "/a/z/\U0010ffff", ID: 259},
		{Path: "/a ", ID: 131}, {Path: "/a-b", ID: 133}, {Path: "/aa", ID: 135},
	}
	if items := Items(l, 0); !slices.Equal(items, want) {
		t.Errorf("%v", items)
	}
}

// P8.3: the Data of files, as it is, and that of directories, that is empty, where nobody made it by hand.
func TestData(t *testing.T) {
	for _, data := range []string{"", "x", "\x00", noRunes, "/", strings.Repeat("d", 64), strings.Repeat("d", 1000)} {
		l := []api.Node{in7(128, 0, "d"), {ID: 129, Parent: 128, Name: "f", Moved: at(1, 0), Data: data}, {ID: 130, Parent: 128, Name: "g", Moved: at(1, 0), Data: data}}
		if items := Items(l, 0); !slices.Equal(items, []api.Item{{Path: "/d", ID: 128}, {Path: "/d/f", ID: 129, Data: data}, {Path: "/d/g", ID: 130, Data: data}}) {
			t.Errorf("%q: %v", data, items)
		}
	}
}

// P8.3: a directory that is not seen is not told, nor what is below it; but it is what is below it itself.
func TestHidden(t *testing.T) {
	for _, other := range []int{130, 131, 640, 641} {
		l := with(nil, api.Node{ID: 256, Name: "x", Moved: at(3, 0)}, api.Node{ID: other, Name: "x", Moved: at(4, 0)}, in7(384, 256, "y"), in7(387, 384, "z"), in7(389, 0, "y"))
		want := []api.Item{{Path: "/x", ID: other}, {Path: "/y", ID: 389}}
		if items := Items(l, 0); !slices.Equal(items, want) {
			t.Errorf("%d: %v", other, items)
		}
		if items := Items(l, 256); !slices.Equal(items, []api.Item{{Path: "/y", ID: 384}, {Path: "/y/z", ID: 387}}) {
			t.Errorf("%d: %v", other, items)
		}
		wantE := api.ErrNone
		if other%2 == 1 {
			wantE = api.ErrDir
		}
		if id, e := Find(l, []string{"x", "y"}); id != 0 || e != wantE {
			t.Errorf("%d: %d, %v", other, id, e)
		}
	}
}

// P8.3: what is in a node that is a file is not told where that is seen, as it is no directory.
func TestBelowFile(t *testing.T) {
	l := []api.Node{in7(128, 0, "d"), in7(129, 128, "f"), in7(256, 129, "in"), in7(259, 256, "deep")}
	if items := Items(l, 0); !slices.Equal(items, []api.Item{{Path: "/d", ID: 128}, {Path: "/d/f", ID: 129}}) {
		t.Errorf("%v", items)
	}
	if id, e := Find(l, []string{"d", "f", "in"}); id != 0 || e != api.ErrDir {
		t.Errorf("%d, %v", id, e)
	}
	wantAll(t, l)
}

// P8.3: of directories that stand in a ring none is told that is above the one asked for, or that is this one itself, nor
// what is seen below; what else hangs on them is told.
func TestRings(t *testing.T) {
	ring := []api.Node{in7(128, 384, "a"), in7(256, 128, "b"), in7(384, 256, "c")}
	hung := with(ring, in7(513, 128, "f"), in7(515, 256, "g"), in7(640, 384, "d"), in7(643, 640, "h"), in7(768, 0, "top"), in7(771, 384, "a0"))
	self := []api.Node{in7(128, 128, "s"), in7(257, 128, "f"), in7(384, 128, "d"), in7(387, 384, "g")}
	two := with(nil, in7(128, 256, "a"), in7(256, 128, "b"), api.Node{ID: 384, Parent: 128, Name: "b", Moved: at(6, 0)}, api.Node{ID: 640, Parent: 256, Name: "a", Moved: at(8, 0)}, in7(643, 640, "f"), in7(645, 384, "g"))
	for i, c := range []struct {
		l    []api.Node
		dir  int
		want []api.Item
	}{
		{ring, 128, nil}, {ring, 256, nil}, {ring, 384, nil}, {ring, 0, nil}, {ring, 512, nil},
		{hung, 0, []api.Item{{Path: "/top", ID: 768}}}, {hung, 128, []api.Item{{Path: "/f", ID: 513}}}, {hung, 256, []api.Item{{Path: "/g", ID: 515}}},
		{hung, 384, []api.Item{{Path: "/a0", ID: 771}, {Path: "/d", ID: 640}, {Path: "/d/h", ID: 643}}}, {hung, 640, []api.Item{{Path: "/h", ID: 643}}}, {hung, 768, nil}, {hung, 643, nil},
		{self, 128, []api.Item{{Path: "/d", ID: 384}, {Path: "/d/g", ID: 387}, {Path: "/f", ID: 257}}}, {self, 384, []api.Item{{Path: "/g", ID: 387}}}, {self, 0, nil}, {self[:1], 128, nil},
		// Of one name the node of the ring hides another one, and is left out; or is hidden itself.
		{two, 128, nil}, {two, 256, []api.Item{{Path: "/a", ID: 640}, {Path: "/a/f", ID: 643}}}, {two, 384, []api.Item{{Path: "/g", ID: 645}}}, {two, 640, []api.Item{{Path: "/f", ID: 643}}},
	} {
		if items := Items(c.l, c.dir); !slices.Equal(items, c.want) {
			t.Errorf("%d: %d: %v, not %v", i, c.dir, items, c.want)
		}
		wantAll(t, c.l)
	}
	// Child, and List, tell what is in a directory of a ring as of any other one.
	if id, is := Child(ring, 128, "b"); id != 256 || !is || !slices.Equal(List(self, 128), []string{"d", "f", "s"}) {
		t.Errorf("%d, %v, %q", id, is, List(self, 128))
	}
}

// Of no nodes at all there is nothing; Find of no names is Root.
func TestNoNodes(t *testing.T) {
	for _, l := range [][]api.Node{nil, {}, make([]api.Node, 0, 4)} {
		for _, dir := range someDirs() {
			if id, is := Child(l, dir, "a"); id != 0 || is || len(List(l, dir)) != 0 || len(Items(l, dir)) != 0 {
				t.Errorf("%d: %d, %v, %q, %v", dir, id, is, List(l, dir), Items(l, dir))
			}
		}
		for _, names := range [][]string{nil, {}} {
			if id, e := Find(l, names); id != 0 || e != api.OK {
				t.Errorf("%d, %v", id, e)
			}
		}
		if id, e := Find(l, []string{"a"}); id != 0 || e != api.ErrNone {
			t.Errorf("%d, %v", id, e)
		}
	}
}

// Of nodes that may not be there is nothing, whatever is asked; Find of no names is Root.
func TestMayNotBe(t *testing.T) {
	for _, l := range noneLists() {
		if tree.Check(l) {
			t.Fatalf("%v may be", l)
		}
		for _, dir := range append(someDirs(), l[0].ID, l[0].Parent) {
			for _, s := range []string{"a", "b", "", l[0].Name} {
				if id, is := Child(l, dir, s); id != 0 || is {
					t.Errorf("%v, %d, %q: %d, %v", l, dir, s, id, is)
				}
			}
			if names, items := List(l, dir), Items(l, dir); len(names)+len(items) != 0 {
				t.Errorf("%v, %d: %q, %v", l, dir, names, items)
			}
		}
		for _, names := range [][]string{{"a"}, {"b"}, {"a", "b"}, {""}, {"a", "b", "f", "x"}} {
			if id, e := Find(l, names); id != 0 || e != api.ErrNone {
				t.Errorf("%v, %q: %d, %v", l, names, id, e)
			}
		}
		for _, names := range [][]string{nil, {}, make([]string, 0, 4)} {
			if id, e := Find(l, names); id != 0 || e != api.OK {
				t.Errorf("%v: %d, %v", l, id, e)
			}
		}
	}
}

// The chapter's example: of two nodes of one name the latter.
func TestExample(t *testing.T) {
	l := tree.Fold([]api.Op{
		{At: at(3, 0), Kind: api.OMove, Node: 130, Name: "x"}, {At: at(5, 0), Kind: api.OMove, Node: 128, Name: "x"},
	})
	if id, is := Child(l, 0, "x"); id != 128 || !is || !slices.Equal(Items(l, 0), []api.Item{{Path: "/x", ID: 128}}) {
		t.Errorf("%d, %v, %v", id, is, Items(l, 0))
	}
}

// someNodes are nodes that may be, made by hand: of few numbers, names and times, in any directories, rings among them.
func someNodes(r *rand.Rand) []api.Node {
	var l []api.Node
	often := 1 + r.Intn(3)
	for c := 1; c <= 7; c++ {
		for k := range 4 {
			if r.Intn(4) >= often {
				continue
			}
			parent := []int{0, 128 * r.Intn(8), 128 * r.Intn(8), 128*(1+r.Intn(7)) + r.Intn(4), someDirs()[r.Intn(len(someDirs()))]}[r.Intn(5)]
			s := []string{"a", "b", "c", "\u00e4", "\U0010ffff", "\uffff", noRunes, "", "a."}[r.Intn(9)]
			n := api.Node{ID: 128*c + k, Parent: parent, Name: s, Moved: at(1+r.Intn(3), r.Intn(2)), Data: "dd"[:r.Intn(3)]}
			if r.Intn(8) == 0 {
				n.Moved = at(r.Intn(2), 63+r.Intn(2))
			}
			l = append(l, n)
		}
	}
	return l
}

// someFold are nodes that operations made, of few names, so that some hide others.
func someFold(r *rand.Rand) []api.Node {
	var l []api.Op
	for range 1 + r.Intn(50) {
		o := api.Op{At: at(8+r.Intn(40), r.Intn(3)), Kind: api.OMove, Node: 128*(1+r.Intn(7)) + r.Intn(4), Parent: 128 * r.Intn(8), Name: "abc"[r.Intn(3):][:1]}
		switch r.Intn(8) {
		case 0:
			o = api.Op{At: o.At, Kind: api.OWrite, Node: o.Node | 1, Data: o.Name}
		case 1:
			o.Parent = api.Trash
		case 2:
			o.Parent = api.Root
		}
		l = append(l, o)
	}
	return tree.Fold(l)
}

// P8.1, P8.2, P8.3: of many nodes all is as the words say, done one by one.
func TestByWords(t *testing.T) {
	r := rand.New(rand.NewSource(2))
	for i := range 600 {
		l := someNodes(r)
		if i%2 == 0 {
			l = someFold(r)
		}
		wantAll(t, l)
		told := map[api.Errno]int{}
		for _, a := range append(List(l, 0), "zz") {
			for _, b := range []string{"a", "b", "c", "", noRunes} {
				for _, c := range []string{"a", "b", "c", "\u00e4"} {
					for n := range 4 {
						told[wantFound(t, l, []string{a, b, c}[:n])]++
					}
				}
			}
		}
		if told[api.ErrNone] == 0 || told[api.OK] == 0 {
			t.Fatalf("%v: %v", l, told)
		}
	}
}

// P8.4: each item is found at its path, and only what is told is found; each node is told once at most; the names of a
// directory are unlike, and those that Child knows.
func TestFollows(t *testing.T) {
	r := rand.New(rand.NewSource(3))
	told, hidden := 0, 0
	for i := range 600 {
		l := someFold(r)
		if i%2 == 0 {
			l = slices.DeleteFunc(someNodes(r), func(n api.Node) bool { return !name.Check(n.Name) })
		}
		paths, ids := map[string]int{}, map[int]bool{}
		for _, item := range Items(l, api.Root) {
			names, e := name.Split(item.Path)
			if id, found := Find(l, names); e != api.OK || id != item.ID || found != api.OK {
				t.Fatalf("%v, %v: %v, %d, %v", l, item, e, id, found)
			}
			if n, there := tree.Find(l, item.ID); !there || n.Data != item.Data || ids[item.ID] {
				t.Fatalf("%v, %v: %v", l, item, n)
			}
			paths[item.Path], ids[item.ID] = item.ID, true
			told++
		}
		hidden += len(l) - len(ids)
		for _, a := range []string{"", "/a", "/b", "/c"} {
			for _, b := range []string{"/a", "/b", "/c", "/\u00e4", "/\uffff"} {
				names, _ := name.Split(a + b)
				if id, e := Find(l, names); id != paths[a+b] || (e == api.OK) != (id != 0) {
					t.Fatalf("%v, %q: %d, %v", l, names, id, e)
				}
			}
		}
		for _, dir := range someDirs() {
			names := List(l, dir)
			for i, s := range names {
				if _, is := Child(l, dir, s); !is || slices.Contains(names[:i], s) {
					t.Fatalf("%v, %d: %q", l, dir, names)
				}
			}
			once := map[int]bool{dir: true}
			for _, item := range Items(l, dir) {
				if once[item.ID] || slices.Contains(tree.Above(l, dir), item.ID) {
					t.Fatalf("%v, %d: %v", l, dir, item)
				}
				once[item.ID] = true
			}
		}
	}
	if told < 600 || hidden < 600 {
		t.Errorf("too few were tried: %d, %d", told, hidden)
	}
}

// R4: the same is told each time, and of the same nodes in other memory, with spare room, and with other Wrotes.
func TestSameAgain(t *testing.T) {
	r := rand.New(rand.NewSource(4))
	for range 200 {
		l := someNodes(r)
		other := append(make([]api.Node, 0, 100), l...)
		for i := range other {
			other[i].Wrote = at(r.Intn(9), r.Intn(9))
		}
		for _, dir := range someDirs() {
			names, items := List(l, dir), Items(l, dir)
			for range 3 {
				if !slices.Equal(names, List(other, dir)) || !slices.Equal(items, Items(other, dir)) {
					t.Fatalf("%v, %d: %q, %v", l, dir, List(other, dir), Items(other, dir))
				}
			}
		}
	}
}

// apart tells whether two texts share no byte of memory.
func apart(a, b string) bool {
	if a == "" || b == "" {
		return true
	}
	x, y := uintptr(unsafe.Pointer(unsafe.StringData(a))), uintptr(unsafe.Pointer(unsafe.StringData(b)))
	return x+uintptr(len(a)) <= y || y+uintptr(len(b)) <= x
}

// R3: what is handed in stays as it was, its spare room included, whatever becomes of the answer; two answers share
// nothing, and no text of an answer is in the memory of a node's.
func TestMemory(t *testing.T) {
	r := rand.New(rand.NewSource(5))
	for i := range 100 {
		l := someNodes(r)
		if i%2 == 0 {
			l = append(someTree(), in7(last+1, 0, "x"))[:13]
		}
		for k := range l {
			l[k].Name, l[k].Data = strings.Clone(l[k].Name), strings.Clone(l[k].Data)
		}
		whole := append(slices.Clone(l), in7(1, 1, "spare"), in7(2, 2, "room"))
		l, was := whole[:len(l)], slices.Clone(whole)
		names := append([]string{"a", "b"}, "spare", "room")
		for _, dir := range someDirs() {
			list, items := List(l, dir), Items(l, dir)
			for _, n := range l {
				for _, s := range list {
					if !apart(s, n.Name) {
						t.Fatalf("%v, %d: the name %q is a node's", l, dir, s)
					}
				}
				for _, item := range items {
					if !apart(item.Data, n.Data) || !apart(item.Path, n.Name) {
						t.Fatalf("%v, %d: the texts of %v are a node's", l, dir, item)
					}
				}
			}
			list2, items2 := List(l, dir), Items(l, dir)
			wantList, wantItems := slices.Clone(list2), slices.Clone(items2)
			clear(list[:cap(list)])
			clear(items[:cap(items)])
			if !slices.Equal(list2, wantList) || !slices.Equal(items2, wantItems) {
				t.Fatalf("%v, %d: two answers share memory", l, dir)
			}
			Child(l, dir, "a")
		}
		Find(l, names[:2])
		if !slices.Equal(whole, was) || !slices.Equal(names, []string{"a", "b", "spare", "room"}) {
			t.Fatalf("%v: what was handed in has changed", was)
		}
	}
}

// R1: of nodes and numbers made by hand there is some answer; of those that may not be nothing.
func TestHandMade(t *testing.T) {
	r := rand.New(rand.NewSource(6))
	for range 3000 {
		l := someNodes(r)
		for range r.Intn(3) {
			n := in7(someDirs()[r.Intn(len(someDirs()))], someDirs()[r.Intn(len(someDirs()))], strings.Repeat("/", r.Intn(30)))
			l = slices.Insert(l, r.Intn(len(l)+1), n)
		}
		dir := someDirs()[r.Intn(len(someDirs()))]
		id, is := Child(l, dir, "a")
		names, items := List(l, dir), Items(l, dir)
		if !tree.Check(l) && (id != 0 || is || len(names)+len(items) > 0) {
			t.Fatalf("%v, %d: %d, %q, %v", l, dir, id, names, items)
		}
		wantFound(t, l, []string{"a", "", "/"}[:r.Intn(4)])
	}
}

// R1: all calls end, in a time that is bearable: of very many nodes in one directory, in a row, in rows, and in a ring.
func TestMany(t *testing.T) {
	began := time.Now()
	var wide, rows []api.Node
	for i := range 100000 {
		wide = append(wide, in7(128*(i+1), 128*(i%2), string(rune(0x10000+i))))
		rows = append(rows, in7(128*(i+1), 128*max(0, i-999), "n"+string(rune(0x4e00+i%1000))))
	}
	if names, items := List(wide, 0), Items(wide, 0); len(names) != 50000 || len(items) != 100000 {
		t.Errorf("%d, %d", len(names), len(items))
	}
	// A thousand rows, each a hundred deep.
	if items := Items(rows, 0); len(items) != 100000 || strings.Count(items[99].Path, "/") != 100 || strings.Count(items[100].Path, "/") != 1 {
		t.Errorf("%d", len(items))
	}
	deep, names := deepTree(5000)
	if items := Items(deep, 0); len(items) != 5000 || items[4999] != (api.Item{Path: strings.Repeat("/n", 5000), ID: 128 * 5000}) {
		t.Errorf("%d", len(items))
	}
	if id, e := Find(deep, names); id != 128*5000 || e != api.OK {
		t.Errorf("%d, %v", id, e)
	}
	deep[0].Parent = 128 * 5000
	for _, dir := range []int{0, 128, 128 * 2500, 128 * 5000} {
		if items := Items(deep, dir); len(items) != 0 {
			t.Errorf("%d: %d", dir, len(items))
		}
	}
	if took := time.Since(began); took > 20*time.Second {
		t.Errorf("took %v", took)
	}
}
