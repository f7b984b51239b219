package tree

import (
	"math"
	"math/rand"
	"slices"
	"strings"
	"testing"
	"time"

	"gunwale/api"
	"gunwale/op"
)

// at is a stamp.
func at(counter, replica int) api.Stamp { return api.Stamp{Counter: counter, Replica: replica} }

// moved, and written, are operations of both kinds.
func moved(s api.Stamp, node, parent int, name string) api.Op {
	return api.Op{At: s, Kind: api.OMove, Node: node, Parent: parent, Name: name}
}

func written(s api.Stamp, node int, data string) api.Op {
	return api.Op{At: s, Kind: api.OWrite, Node: node, Data: data}
}

// in is a node of that Parent, and nothing else.
func in(parent, id int) api.Node { return api.Node{ID: id, Parent: parent} }

// numbers are the IDs of l.
func numbers(l []api.Node) []int {
	var ids []int
	for _, n := range l {
		ids = append(ids, n.ID)
	}
	return ids
}

// isNode tells by the words whether id is a node's number: 128 for each of a Counter of 1 to 1048576, and 0 to 127.
func isNode(id int) bool { return id >= 128 && id < 128*1048577 }

// wantCheck, and the others below, tell by the words what is asked for, one node by one, slowly.
func wantCheck(l []api.Node) bool {
	ids := numbers(l)
	for i, id := range ids {
		if !isNode(id) || slices.ContainsFunc(ids[:i], func(other int) bool { return other >= id }) {
			return false
		}
	}
	return true
}

func wantFind(l []api.Node, id int) (api.Node, bool) {
	for _, n := range l {
		if n.ID == id && wantCheck(l) {
			return n, true
		}
	}
	return api.Node{}, false
}

func wantAbove(l []api.Node, id int) []int {
	var all []int
	n, there := wantFind(l, id)
	for there && n.Parent != -1 && len(all) < len(l) {
		all = append(all, n.Parent)
		n, there = wantFind(l, n.Parent)
	}
	return all
}

// wantWith is l without the node of the number id, and with some, by rising IDs.
func wantWith(l []api.Node, id int, some ...api.Node) []api.Node {
	for _, n := range l {
		if n.ID != id {
			some = append(some, n)
		}
	}
	slices.SortFunc(some, func(a, b api.Node) int { return a.ID - b.ID })
	return some
}

func wantDo(l []api.Node, o api.Op) ([]api.Node, api.Undo) {
	into := o.Kind == 1 && (o.Parent == o.Node || slices.Contains(wantAbove(l, o.Parent), o.Node))
	if !wantCheck(l) || !op.Check(o) || into {
		return l, api.Undo{}
	}
	was, had := wantFind(l, o.Node)
	n := was
	if !had {
		n = api.Node{ID: o.Node, Parent: -1}
	}
	switch o.Kind {
	case 1:
		n.Parent, n.Name, n.Moved = o.Parent, o.Name, o.At
	case 2:
		n.Data, n.Wrote = o.Data, o.At
	}
	return wantWith(l, o.Node, n), api.Undo{Did: true, Had: had, Was: was}
}

func wantBack(l []api.Node, o api.Op, u api.Undo) []api.Node {
	switch {
	case !u.Did || !wantCheck(l):
		return l
	case u.Had && u.Was.ID == o.Node && isNode(o.Node):
		return wantWith(l, o.Node, u.Was)
	}
	return wantWith(l, o.Node)
}

func wantFold(l []api.Op) []api.Node {
	done := map[api.Stamp]bool{}
	var made []api.Node
	for {
		next := -1
		for i, o := range l {
			if op.Check(o) && !done[o.At] && (next < 0 || op.Less(o, l[next])) {
				next = i
			}
		}
		if next < 0 {
			return made
		}
		done[l[next].At] = true
		made, _ = wantDo(made, l[next])
	}
}

// someTree is nodes of several levels: files, and directories, in Root, in Trash, Nowhere, and in what is not there.
func someTree() []api.Node {
	return []api.Node{
		{ID: 128, Parent: 0, Name: "a", Moved: at(1, 0)},
		{ID: 130, Parent: 128, Name: "b", Moved: at(7, 2)},
		{ID: 133, Parent: 130, Name: "f", Moved: at(8, 1), Data: "text", Wrote: at(9, 1)},
		{ID: 256, Parent: 130, Name: "c", Moved: at(4, 4)},
		{ID: 257, Parent: 256, Name: "f", Moved: at(5, 0)},
		{ID: 384, Parent: 256, Name: "d", Moved: at(3, 0)},
		{ID: 512, Parent: 2, Name: "old", Moved: at(11, 0)},
		{ID: 514, Parent: 512, Name: "e", Moved: at(4, 1)},
		{ID: 641, Parent: -1, Data: "early", Wrote: at(5, 0)},
		{ID: 768, Parent: 900, Name: "g", Moved: at(7, 7)},
		{ID: 770, Parent: 768, Name: "h", Moved: at(12, 3)},
		{ID: 128*1048577 - 1, Parent: 0, Name: "last", Moved: at(1048576, 63), Data: "\xff", Wrote: at(1048576, 63)},
	}
}

// mayLists are lists of nodes that may be, made by hand among them; noneLists are such that may not be.
func mayLists() [][]api.Node {
	return [][]api.Node{
		nil, {}, {in(0, 128)}, {in(-1, 128*1048577-1)}, {in(128, 128)}, {in(256, 128), in(128, 256)}, {in(256, 128), in(384, 256), in(128, 384)},
		{in(0, 128), in(128, 130), in(514, 512), in(512, 514)}, {in(129, 128), in(0, 129), in(128, 256)}, {in(129, 128), in(256, 129), in(128, 256)},
		{in(2, 128), in(-2, 130), in(math.MinInt, 132), in(math.MaxInt, 134), in(1, 136), in(127, 138), in(128*1048577, 140)},
		{in(0, 128), in(0, 129), in(0, 130), in(0, 131)}, someTree(), {{ID: 129, Parent: 130, Name: "/", Moved: at(-1, 99), Data: strings.Repeat("d", 99), Wrote: at(0, 0)}},
	}
}

func noneLists() [][]api.Node {
	l := [][]api.Node{
		{in(0, 256), in(0, 128)}, {in(0, 128), in(0, 128)}, {in(0, 128), in(0, 384), in(0, 256)}, {in(0, 128), in(0, 256), in(0, 256)}, {in(0, 256), in(0, 128), in(0, 384)},
		{in(0, 129), in(0, 128)}, {in(0, 512), in(0, 384), in(0, 256), in(0, 128)}, {{ID: 128, Name: "a"}, {ID: 128, Name: "b"}}, {in(0, 0), in(0, 128)}, {in(0, 2), in(0, 128)}, {in(0, 128), in(0, 128*1048577)},
	}
	for _, id := range []int{0, 1, 2, 3, 127, -1, -2, -128, -256, 128 * 1048577, 128*1048577 + 1, 1 << 40, math.MaxInt, math.MinInt} {
		l = append(l, []api.Node{in(0, id)}, wantWith(someTree(), 384, in(0, id)))
	}
	return append(l, append(someTree(), in(0, 128)), append(someTree(), someTree()...))
}

// someIDs are numbers of nodes, and others, there and not.
func someIDs() []int {
	return []int{0, 2, -1, -2, 1, 3, 127, 128, 129, 130, 131, 132, 133, 256, 257, 258, 384, 385, 512, 514, 641, 768, 770, 900, 128*1048577 - 1, 128 * 1048577, math.MaxInt, math.MinInt}
}

// someOp is an operation that may be, in most cases, of few nodes and stamps.
func someOp(r *rand.Rand) api.Op {
	s := at(1+r.Intn(12), r.Intn(3))
	node, parent := 128*(1+r.Intn(6))+2*r.Intn(2), 128*r.Intn(7)
	switch r.Intn(8) {
	case 0:
		return written(s, node+1, string([]byte{byte(r.Intn(256))}))
	case 1:
		return moved(s, node+1, parent, "f")
	case 2:
		return moved(s, node, api.Trash, "t")
	case 3:
		return moved(s, node+r.Intn(2), parent, string("/.\x00n"[r.Intn(4)]))
	}
	return moved(at(20+r.Intn(40), 0), node, parent, string(rune('a'+r.Intn(26))))
}

func someOps(r *rand.Rand, n int) []api.Op {
	var l []api.Op
	for range n {
		l = append(l, someOp(r))
	}
	return l
}

// someNodes are nodes that may be, of few numbers, with any Parents, most of them directories.
func someNodes(r *rand.Rand) []api.Node {
	var l []api.Node
	for c := 1; c <= 6; c++ {
		for k := range 3 {
			if id := 128*c + k; r.Intn(3) == 0 {
				parent := []int{0, 2, -1, 128 * r.Intn(8), 128*(1+r.Intn(6)) + r.Intn(3), r.Intn(400) - 200}[r.Intn(6)]
				l = append(l, api.Node{ID: id, Parent: parent, Name: string(rune('a' + r.Intn(3))), Moved: at(r.Intn(9), r.Intn(3)), Data: "d"[:r.Intn(2)], Wrote: at(r.Intn(9), 0)})
			}
		}
	}
	return l
}

// P6.1: which nodes may be.
func TestCheck(t *testing.T) {
	for _, l := range mayLists() {
		if !Check(l) || !wantCheck(l) {
			t.Errorf("%v: may not be", l)
		}
	}
	for _, l := range noneLists() {
		if Check(l) || wantCheck(l) {
			t.Errorf("%v: may be", l)
		}
	}
	r := rand.New(rand.NewSource(1))
	may := 0
	for range 20000 {
		var l []api.Node
		id := r.Intn(200)
		for range r.Intn(6) {
			l = append(l, in(r.Intn(5)-1, id))
			id += r.Intn(8) * r.Intn(100) * r.Intn(10000)
		}
		if Check(l) != wantCheck(l) {
			t.Fatalf("%v: %v", l, Check(l))
		}
		if Check(l) && len(l) > 1 {
			may++
		}
	}
	if may < 300 {
		t.Errorf("only %d of them may be", may)
	}
}

// P6.1: the node of a number, all of it, wherever it stands; and none, false.
func TestFind(t *testing.T) {
	l := someTree()
	for _, want := range l {
		if n, ok := Find(l, want.ID); n != want || !ok {
			t.Errorf("%d: %v, %v", want.ID, n, ok)
		}
		for _, id := range []int{want.ID - 1, want.ID + 1} {
			n, ok := Find(l, id)
			if there := slices.Contains(numbers(l), id); ok != there || !there && n != (api.Node{}) {
				t.Errorf("%d: %v, %v", id, n, ok)
			}
		}
	}
	for _, l := range slices.Concat(mayLists(), noneLists()) {
		for _, id := range slices.Concat(someIDs(), numbers(l)) {
			want, there := wantFind(l, id)
			if n, ok := Find(l, id); n != want || ok != there {
				t.Errorf("%v, %d: %v, %v", l, id, n, ok)
			}
		}
	}
}

// P6.1: of nodes that may not be none is told, and there is nothing above.
func TestNoneOfSuch(t *testing.T) {
	for _, l := range noneLists() {
		for _, id := range slices.Concat(someIDs(), numbers(l)) {
			if n, ok := Find(l, id); n != (api.Node{}) || ok {
				t.Errorf("%v, %d: %v, %v", l, id, n, ok)
			}
			if all := Above(l, id); len(all) != 0 {
				t.Errorf("%v, %d: %v", l, id, all)
			}
		}
	}
}

// P6.1: what is above, up to where it ends: at Root, at Trash, at Nowhere, at what is not there.
func TestAbove(t *testing.T) {
	for _, c := range []struct {
		l    []api.Node
		id   int
		want []int
	}{
		{nil, 128, nil}, {nil, 0, nil}, {nil, -1, nil},
		{someTree(), 128, []int{0}}, {someTree(), 130, []int{128, 0}}, {someTree(), 133, []int{130, 128, 0}}, {someTree(), 384, []int{256, 130, 128, 0}}, {someTree(), 257, []int{256, 130, 128, 0}},
		{someTree(), 512, []int{2}}, {someTree(), 514, []int{512, 2}}, {someTree(), 641, nil}, {someTree(), 768, []int{900}}, {someTree(), 770, []int{768, 900}}, {someTree(), 128*1048577 - 1, []int{0}},
		{someTree(), 0, nil}, {someTree(), 2, nil}, {someTree(), -1, nil}, {someTree(), 900, nil}, {someTree(), 129, nil}, {someTree(), 1, nil},
		{[]api.Node{in(-1, 128), in(128, 130), in(130, 132)}, 132, []int{130, 128}}, {[]api.Node{in(0, 128), in(128, 130), in(130, 132)}, 132, []int{130, 128, 0}},
		{[]api.Node{in(-2, 128), in(128, 129)}, 129, []int{128, -2}}, {[]api.Node{in(math.MaxInt, 128)}, 128, []int{math.MaxInt}}, {[]api.Node{in(math.MinInt, 128)}, 128, []int{math.MinInt}},
		{[]api.Node{in(129, 128), in(0, 129)}, 128, []int{129, 0}}, {[]api.Node{in(1, 128)}, 128, []int{1}}, {[]api.Node{in(127, 128)}, 128, []int{127}},
	} {
		if all := Above(c.l, c.id); !slices.Equal(all, c.want) {
			t.Errorf("%v, %d: %v, not %v", c.l, c.id, all, c.want)
		}
	}
}

// P6.1: of what is above and goes round, no more are told than there are nodes.
func TestAboveGoesRound(t *testing.T) {
	two := []api.Node{in(256, 128), in(128, 256)}
	three := []api.Node{in(256, 128), in(384, 256), in(128, 384)}
	tail := []api.Node{in(256, 128), in(128, 256), in(128, 384), in(384, 512), in(0, 640)}
	for _, c := range []struct {
		l    []api.Node
		id   int
		want []int
	}{
		{[]api.Node{in(128, 128)}, 128, []int{128}}, {[]api.Node{in(128, 128), in(0, 130)}, 128, []int{128, 128}}, {[]api.Node{in(128, 128), in(0, 130)}, 130, []int{0}},
		{two, 128, []int{256, 128}}, {two, 256, []int{128, 256}}, {two, 384, nil}, {three, 128, []int{256, 384, 128}}, {three, 384, []int{128, 256, 384}},
		{tail, 128, []int{256, 128, 256, 128, 256}}, {tail, 256, []int{128, 256, 128, 256, 128}}, {tail, 384, []int{128, 256, 128, 256, 128}}, {tail, 512, []int{384, 128, 256, 128, 256}}, {tail, 640, []int{0}},
	} {
		if all := Above(c.l, c.id); !slices.Equal(all, c.want) {
			t.Errorf("%v, %d: %v, not %v", c.l, c.id, all, c.want)
		}
	}
}

// P6.1: what is above is as the words say, of nodes of all kinds.
func TestAboveByWords(t *testing.T) {
	r := rand.New(rand.NewSource(2))
	lists := mayLists()
	for range 3000 {
		lists = append(lists, someNodes(r))
	}
	for _, l := range lists {
		for _, id := range slices.Concat(someIDs(), numbers(l)) {
			if all, want := Above(l, id), wantAbove(l, id); !slices.Equal(all, want) {
				t.Fatalf("%v, %d: %v, not %v", l, id, all, want)
			}
		}
	}
}

// P6.2: what is done to nodes that were there, and that were not, at the front, in the midst, and at the end.
func TestDo(t *testing.T) {
	a, f := api.Node{ID: 256, Parent: 0, Name: "a", Moved: at(2, 0)}, api.Node{ID: 385, Parent: 256, Name: "f", Moved: at(3, 0), Data: "old", Wrote: at(4, 4)}
	g := api.Node{ID: 513, Parent: -1, Data: "g", Wrote: at(5, 0)}
	l := []api.Node{a, f, g}
	for _, c := range []struct {
		o    api.Op
		u    api.Undo
		want []api.Node
	}{
		{moved(at(9, 1), 256, 2, "b"), api.Undo{Did: true, Had: true, Was: a}, []api.Node{{ID: 256, Parent: 2, Name: "b", Moved: at(9, 1)}, f, g}},
		{moved(at(9, 1), 256, 0, "b"), api.Undo{Did: true, Had: true, Was: a}, []api.Node{{ID: 256, Parent: 0, Name: "b", Moved: at(9, 1)}, f, g}},
		{moved(at(9, 1), 256, 901, "b"), api.Undo{}, []api.Node{a, f, g}},
		{moved(at(9, 1), 256, 896, "b"), api.Undo{Did: true, Had: true, Was: a}, []api.Node{{ID: 256, Parent: 896, Name: "b", Moved: at(9, 1)}, f, g}},
		{moved(at(9, 1), 385, 0, "h"), api.Undo{Did: true, Had: true, Was: f}, []api.Node{a, {ID: 385, Parent: 0, Name: "h", Moved: at(9, 1), Data: "old", Wrote: at(4, 4)}, g}},
		{moved(at(9, 1), 513, 256, "i"), api.Undo{Did: true, Had: true, Was: g}, []api.Node{a, f, {ID: 513, Parent: 256, Name: "i", Moved: at(9, 1), Data: "g", Wrote: at(5, 0)}}},
		{written(at(9, 1), 385, "new"), api.Undo{Did: true, Had: true, Was: f}, []api.Node{a, {ID: 385, Parent: 256, Name: "f", Moved: at(3, 0), Data: "new", Wrote: at(9, 1)}, g}},
		{written(at(3, 63), 385, ""), api.Undo{Did: true, Had: true, Was: f}, []api.Node{a, {ID: 385, Parent: 256, Name: "f", Moved: at(3, 0), Data: "", Wrote: at(3, 63)}, g}},
		{written(at(9, 1), 513, "\x00"), api.Undo{Did: true, Had: true, Was: g}, []api.Node{a, f, {ID: 513, Parent: -1, Data: "\x00", Wrote: at(9, 1)}}},
		{moved(at(1, 0), 128, 0, "z"), api.Undo{Did: true}, []api.Node{{ID: 128, Parent: 0, Name: "z", Moved: at(1, 0)}, a, f, g}},
		{moved(at(9, 1), 258, 256, "z"), api.Undo{Did: true}, []api.Node{a, {ID: 258, Parent: 256, Name: "z", Moved: at(9, 1)}, f, g}},
		{moved(at(9, 1), 384, 2, "z"), api.Undo{Did: true}, []api.Node{a, {ID: 384, Parent: 2, Name: "z", Moved: at(9, 1)}, f, g}},
		{moved(at(9, 1), 1155, 640, "z"), api.Undo{Did: true}, []api.Node{a, f, g, {ID: 1155, Parent: 640, Name: "z", Moved: at(9, 1)}}},
		{written(at(9, 1), 129, "new"), api.Undo{Did: true}, []api.Node{{ID: 129, Parent: -1, Data: "new", Wrote: at(9, 1)}, a, f, g}},
		{written(at(9, 1), 387, ""), api.Undo{Did: true}, []api.Node{a, f, {ID: 387, Parent: -1, Wrote: at(9, 1)}, g}},
		{written(at(9, 1), 515, "new"), api.Undo{Did: true}, []api.Node{a, f, g, {ID: 515, Parent: -1, Data: "new", Wrote: at(9, 1)}}},
	} {
		if made, u := Do(l, c.o); !slices.Equal(made, c.want) || u != c.u {
			t.Errorf("%v: %v, %v, not %v, %v", c.o, made, u, c.want, c.u)
		}
	}
	for _, o := range []api.Op{moved(at(1, 0), 128, 0, "a"), moved(at(1, 0), 129, 128, "a"), written(at(1, 0), 129, "d")} {
		made, u := Do(nil, o)
		if want, _ := wantDo(nil, o); !slices.Equal(made, want) || len(made) != 1 || u != (api.Undo{Did: true}) {
			t.Errorf("%v: %v, %v", o, made, u)
		}
	}
}

// nothingDone tells t, unless o does nothing to l.
func nothingDone(t *testing.T, l []api.Node, o api.Op) {
	t.Helper()
	if made, u := Do(l, o); !slices.Equal(made, l) || u != (api.Undo{}) {
		t.Errorf("%v, %v: %v, %v", l, o, made, u)
	}
}

// P6.2: an operation that may not be does nothing.
func TestDoNone(t *testing.T) {
	move, write := moved(at(12, 3), 256, 0, "x"), written(at(12, 3), 257, "d")
	var l []api.Op
	for _, how := range []func(o *api.Op){
		func(o *api.Op) { o.At = api.Stamp{} }, func(o *api.Op) { o.At.Replica = 64 }, func(o *api.Op) { o.At = at(1, 63) }, func(o *api.Op) { o.Kind = 0 }, func(o *api.Op) { o.Kind = 3 }, func(o *api.Op) { o.Kind = -1 },
		func(o *api.Op) { o.Kind = 3 - o.Kind }, func(o *api.Op) { o.Node = 0 }, func(o *api.Op) { o.Node = 2 }, func(o *api.Op) { o.Node = -1 }, func(o *api.Op) { o.Node = 128*1048577 - 1 }, func(o *api.Op) { o.Node = math.MinInt },
		func(o *api.Op) { o.Parent = -1 }, func(o *api.Op) { o.Parent = 133 }, func(o *api.Op) { o.Parent = 1 }, func(o *api.Op) { o.Parent = 128 * 1048576 }, func(o *api.Op) { o.Parent = math.MaxInt },
		func(o *api.Op) { o.Name = "a/b" }, func(o *api.Op) { o.Name = ".." }, func(o *api.Op) { o.Name = strings.Repeat("n", 21) }, func(o *api.Op) { o.Data = strings.Repeat("d", 65) },
	} {
		m, w := move, write
		how(&m)
		how(&w)
		l = append(l, m, w)
	}
	l = append(l, api.Op{}, moved(at(12, 3), 256, 0, ""), moved(at(12, 3), 256, 256, "a/b"), written(at(12, 3), 256, "d"), api.Op{At: at(12, 3), Kind: 1, Node: 256, Name: "x", Data: "d"}, api.Op{At: at(12, 3), Kind: 2, Node: 257, Parent: 256})
	for _, o := range l {
		if op.Check(o) {
			t.Errorf("%v: may be", o)
		}
		for _, nodes := range mayLists() {
			nothingDone(t, nodes, o)
		}
	}
}

// P6.2: a directory is not moved into itself, nor into what is in it, near and far, whatever it is above of.
func TestDoLoops(t *testing.T) {
	s := at(12, 3)
	for _, c := range []struct {
		l            []api.Node
		node, parent int
		did          bool
	}{
		{nil, 128, 128, false}, {someTree(), 128, 128, false}, {someTree(), 132, 132, false}, {someTree(), 384, 384, false},
		{someTree(), 128, 130, false}, {someTree(), 128, 256, false}, {someTree(), 128, 384, false}, {someTree(), 130, 256, false}, {someTree(), 130, 384, false}, {someTree(), 256, 384, false}, {someTree(), 512, 514, false},
		{someTree(), 900, 770, false}, {someTree(), 768, 770, false}, {[]api.Node{in(1024, 768), in(768, 770)}, 1024, 768, false}, {[]api.Node{in(1024, 768), in(768, 770)}, 1024, 770, false},
		{someTree(), 384, 128, true}, {someTree(), 384, 130, true}, {someTree(), 384, 256, true}, {someTree(), 256, 128, true}, {someTree(), 256, 514, true}, {someTree(), 128, 514, true}, {someTree(), 128, 770, true}, {someTree(), 128, 768, true},
		{someTree(), 128, 0, true}, {someTree(), 128, 2, true}, {someTree(), 130, 132, true}, {someTree(), 132, 384, true}, {someTree(), 133, 384, true}, {someTree(), 768, 384, true}, {nil, 128, 256, true},
		{[]api.Node{in(129, 128), in(0, 129)}, 129, 128, false}, {[]api.Node{in(129, 128), in(256, 129)}, 129, 128, false}, {[]api.Node{in(129, 128), in(256, 129)}, 256, 128, false}, {[]api.Node{in(129, 128), in(256, 129)}, 129, 256, true},
		{[]api.Node{in(256, 128), in(128, 256)}, 128, 256, false}, {[]api.Node{in(256, 128), in(128, 256)}, 128, 128, false}, {[]api.Node{in(256, 128), in(128, 256)}, 128, 0, true}, {[]api.Node{in(256, 128), in(128, 256)}, 384, 256, true},
		{[]api.Node{in(256, 128), in(128, 256), in(128, 384), in(384, 512)}, 128, 512, false}, {[]api.Node{in(256, 128), in(128, 256), in(128, 384), in(384, 512)}, 256, 512, false}, {[]api.Node{in(256, 128), in(128, 256), in(128, 384), in(384, 512)}, 512, 384, true},
		{[]api.Node{in(-1, 128)}, 256, 128, true}, {[]api.Node{in(128, 128)}, 256, 128, true},
	} {
		o := moved(s, c.node, c.parent, "n")
		if !op.Check(o) {
			o.At = at(20, 0)
		}
		if !c.did {
			nothingDone(t, c.l, o)
			continue
		}
		made, u := Do(c.l, o)
		want, undo := wantDo(c.l, o)
		if n, ok := Find(made, c.node); !u.Did || u != undo || !ok || n.Parent != c.parent || !slices.Equal(made, want) {
			t.Errorf("%v, %v: %v, %v", c.l, o, made, u)
		}
	}
}

// P6.2: what is far above is seen, too, of a row of nodes, from its end to each of them.
func TestDoLoopsFar(t *testing.T) {
	var l []api.Node
	for i := range 100 {
		l = append(l, in(128*i, 128*(i+1)))
	}
	for i := range 100 {
		nothingDone(t, l, moved(at(200, 0), 128*(i+1), 128*100, "n"))
		nothingDone(t, l, moved(at(200, 0), 128, 128*(i+1), "n"))
		if made, u := Do(l, moved(at(200, 0), 128*100, 128*i, "n")); !u.Did || made[99].Parent != 128*i || made[99].Name != "n" {
			t.Errorf("%d: %v, %v", i, u, made[99])
		}
	}
}

// P6.2, P6.3: nodes that may not be stay as they were, and nothing is done.
func TestNothingToSuch(t *testing.T) {
	for _, l := range noneLists() {
		for _, o := range []api.Op{moved(at(12, 0), 128, 0, "x"), moved(at(12, 0), 384, 128, "x"), moved(at(12, 0), 1024, 0, "x"), written(at(12, 0), 129, "d"), {}} {
			nothingDone(t, l, o)
			for _, u := range []api.Undo{{}, {Did: true}, {Did: true, Had: true, Was: in(0, o.Node)}, {Had: true, Was: in(0, o.Node)}} {
				if made := Back(l, o, u); !slices.Equal(made, l) {
					t.Errorf("%v, %v, %v: %v", l, o, u, made)
				}
			}
		}
	}
}

// P6.2: of all nodes, and operations, what is done is as the words say.
func TestDoByWords(t *testing.T) {
	r := rand.New(rand.NewSource(3))
	did, had := 0, 0
	for range 30000 {
		l, o := someNodes(r), someOp(r)
		want, undo := wantDo(l, o)
		made, u := Do(l, o)
		if !slices.Equal(made, want) || u != undo {
			t.Fatalf("%v, %v: %v, %v, not %v, %v", l, o, made, u, want, undo)
		}
		if u.Did {
			did++
		}
		if u.Had {
			had++
		}
	}
	if did < 9000 || did > 27000 || had < 3000 {
		t.Errorf("%d, %d of them did something", did, had)
	}
}

// P6.3: what an Undo says is taken back, one made by hand, too.
func TestBack(t *testing.T) {
	a, f, g := api.Node{ID: 256, Name: "a", Moved: at(2, 0)}, api.Node{ID: 385, Parent: 256, Name: "f", Moved: at(3, 0), Data: "d", Wrote: at(4, 4)}, in(-1, 513)
	l := []api.Node{a, f, g}
	x := func(id int) api.Node {
		return api.Node{ID: id, Parent: 77, Name: "/", Moved: at(-1, 0), Data: strings.Repeat("x", 70), Wrote: at(0, 99)}
	}
	of := func(id int) api.Op { return moved(at(9, 0), id, 0, "n") }
	for _, c := range []struct {
		o    api.Op
		u    api.Undo
		want []api.Node
	}{
		{of(256), api.Undo{}, l}, {of(385), api.Undo{}, l}, {of(128), api.Undo{}, l}, {of(385), api.Undo{Had: true, Was: x(385)}, l}, {of(128), api.Undo{Had: true, Was: x(128)}, l}, {of(385), api.Undo{Was: x(385)}, l},
		{of(256), api.Undo{Did: true}, []api.Node{f, g}}, {of(385), api.Undo{Did: true}, []api.Node{a, g}}, {of(513), api.Undo{Did: true}, []api.Node{a, f}}, {of(385), api.Undo{Did: true, Was: x(385)}, []api.Node{a, g}},
		{of(128), api.Undo{Did: true}, l}, {of(384), api.Undo{Did: true}, l}, {of(640), api.Undo{Did: true}, l}, {of(128), api.Undo{Did: true, Was: x(128)}, l},
		{of(256), api.Undo{Did: true, Had: true, Was: x(256)}, []api.Node{x(256), f, g}}, {of(385), api.Undo{Did: true, Had: true, Was: x(385)}, []api.Node{a, x(385), g}}, {of(513), api.Undo{Did: true, Had: true, Was: x(513)}, []api.Node{a, f, x(513)}},
		{of(128), api.Undo{Did: true, Had: true, Was: x(128)}, []api.Node{x(128), a, f, g}}, {of(384), api.Undo{Did: true, Had: true, Was: x(384)}, []api.Node{a, x(384), f, g}}, {of(640), api.Undo{Did: true, Had: true, Was: x(640)}, []api.Node{a, f, g, x(640)}},
		{of(385), api.Undo{Did: true, Had: true, Was: x(384)}, []api.Node{a, g}}, {of(385), api.Undo{Did: true, Had: true, Was: a}, []api.Node{a, g}}, {of(385), api.Undo{Did: true, Had: true}, []api.Node{a, g}}, {of(385), api.Undo{Did: true, Had: true, Was: x(-1)}, []api.Node{a, g}},
		{of(128), api.Undo{Did: true, Had: true, Was: x(130)}, l}, {of(128), api.Undo{Did: true, Had: true, Was: x(0)}, l}, {of(128), api.Undo{Did: true, Had: true, Was: a}, l},
		{of(0), api.Undo{Did: true, Had: true, Was: x(0)}, l}, {of(2), api.Undo{Did: true, Had: true, Was: x(2)}, l}, {of(-1), api.Undo{Did: true, Had: true, Was: x(-1)}, l}, {of(127), api.Undo{Did: true, Had: true, Was: x(127)}, l},
		{of(128 * 1048577), api.Undo{Did: true, Had: true, Was: x(128 * 1048577)}, l}, {of(math.MaxInt), api.Undo{Did: true, Had: true, Was: x(math.MaxInt)}, l}, {of(math.MinInt), api.Undo{Did: true, Had: true, Was: x(math.MinInt)}, l},
		{of(0), api.Undo{Did: true}, l}, {of(-1), api.Undo{Did: true}, l}, {api.Op{}, api.Undo{Did: true, Had: true}, l},
	} {
		if made := Back(l, c.o, c.u); !slices.Equal(made, c.want) {
			t.Errorf("%v, %v: %v, not %v", c.o, c.u, made, c.want)
		}
		// Of an operation its Node alone tells what is taken back.
		if made := Back(l, api.Op{Node: c.o.Node}, c.u); !slices.Equal(made, c.want) {
			t.Errorf("%d, %v: %v, not %v", c.o.Node, c.u, made, c.want)
		}
	}
	if made := Back(nil, of(128), api.Undo{Did: true, Had: true, Was: x(128)}); !slices.Equal(made, []api.Node{x(128)}) {
		t.Errorf("%v", made)
	}
	if made := Back(nil, of(128), api.Undo{Did: true}); len(made) != 0 {
		t.Errorf("%v", made)
	}
}

// P6.3: of all nodes, operations, and Undos what is taken back is as the words say.
func TestBackByWords(t *testing.T) {
	r := rand.New(rand.NewSource(4))
	for range 30000 {
		l, o := someNodes(r), someOp(r)
		u := api.Undo{Did: r.Intn(4) > 0, Had: r.Intn(4) > 0, Was: api.Node{ID: o.Node, Parent: r.Intn(300), Name: "was"}}
		if r.Intn(4) == 0 {
			u.Was.ID = []int{0, 2, -1, 128 * r.Intn(8), r.Intn(1000), math.MaxInt}[r.Intn(6)]
		}
		if r.Intn(8) == 0 {
			o.Node = u.Was.ID
		}
		if made, want := Back(l, o, u), wantBack(l, o, u); !slices.Equal(made, want) || !Check(made) {
			t.Fatalf("%v, %v, %v: %v, not %v", l, o, u, made, want)
		}
	}
}

// P6.4: the nodes that operations make, in whatever order they stand.
func TestFold(t *testing.T) {
	a, b := moved(at(1, 0), 128, 0, "a"), moved(at(2, 0), 256, 128, "b")
	into, back := moved(at(3, 0), 128, 256, "c"), moved(at(3, 1), 256, 0, "b")
	write, late := written(at(4, 0), 257, "old"), written(at(4, 1), 257, "new")
	nodeA, nodeB := api.Node{ID: 128, Name: "a", Moved: at(1, 0)}, api.Node{ID: 256, Parent: 128, Name: "b", Moved: at(2, 0)}
	for _, c := range []struct {
		l    []api.Op
		want []api.Node
	}{
		{nil, nil}, {[]api.Op{}, nil}, {[]api.Op{a}, []api.Node{nodeA}}, {[]api.Op{a, b}, []api.Node{nodeA, nodeB}}, {[]api.Op{b, a}, []api.Node{nodeA, nodeB}}, {[]api.Op{b}, []api.Node{nodeB}},
		{[]api.Op{a, b, into}, []api.Node{nodeA, nodeB}}, {[]api.Op{into, b, a}, []api.Node{nodeA, nodeB}}, {[]api.Op{into, a}, []api.Node{{ID: 128, Parent: 256, Name: "c", Moved: at(3, 0)}}},
		{[]api.Op{a, b, into, back}, []api.Node{nodeA, {ID: 256, Name: "b", Moved: at(3, 1)}}},
		{[]api.Op{write, late}, []api.Node{{ID: 257, Parent: -1, Data: "new", Wrote: at(4, 1)}}}, {[]api.Op{late, write}, []api.Node{{ID: 257, Parent: -1, Data: "new", Wrote: at(4, 1)}}},
		{[]api.Op{late, moved(at(2, 5), 257, 128, "f")}, []api.Node{{ID: 257, Parent: 128, Name: "f", Moved: at(2, 5), Data: "new", Wrote: at(4, 1)}}},
		{[]api.Op{a, moved(at(2, 0), 128, 2, "a"), moved(at(3, 0), 128, 0, "z")}, []api.Node{{ID: 128, Name: "z", Moved: at(3, 0)}}},
	} {
		if made := Fold(c.l); !slices.Equal(made, c.want) {
			t.Errorf("%v: %v, not %v", c.l, made, c.want)
		}
	}
}

// P6.4: of those of one At the first one in the list counts, done or not; those that may not be do not count.
func TestFoldOneAt(t *testing.T) {
	one, two := moved(at(5, 1), 128, 0, "one"), moved(at(5, 1), 130, 0, "two")
	loop, none := moved(at(5, 1), 128, 128, "loop"), moved(at(5, 1), 128, 0, "a/b")
	other := moved(at(5, 2), 132, 0, "other")
	oneNode, twoNode, otherNode := api.Node{ID: 128, Name: "one", Moved: at(5, 1)}, api.Node{ID: 130, Name: "two", Moved: at(5, 1)}, api.Node{ID: 132, Name: "other", Moved: at(5, 2)}
	for _, c := range []struct {
		l    []api.Op
		want []api.Node
	}{
		{[]api.Op{one, two}, []api.Node{oneNode}}, {[]api.Op{two, one}, []api.Node{twoNode}}, {[]api.Op{one, one}, []api.Node{oneNode}}, {[]api.Op{other, one, other, two, other}, []api.Node{oneNode, otherNode}}, {[]api.Op{other, two, one}, []api.Node{twoNode, otherNode}},
		{[]api.Op{loop, one, two}, nil}, {[]api.Op{one, loop}, []api.Node{oneNode}}, {[]api.Op{none, one, two}, []api.Node{oneNode}}, {[]api.Op{none, two, none, one}, []api.Node{twoNode}}, {[]api.Op{none, none}, nil}, {[]api.Op{{}, two, {}}, []api.Node{twoNode}},
		{[]api.Op{moved(at(0, 0), 128, 0, "x"), moved(at(1048577, 0), 128, 0, "x"), moved(at(1, 0), 256, 0, "x")}, nil},
	} {
		if made := Fold(c.l); !slices.Equal(made, c.want) {
			t.Errorf("%v: %v, not %v", c.l, made, c.want)
		}
	}
	var l []api.Op
	for i := range 60 {
		l = append(l, moved(at(3+i%3, 0), 128+2*i, 0, "n"))
	}
	if made := Fold(l); !slices.Equal(numbers(made), []int{128, 130, 132}) {
		t.Errorf("%v", made)
	}
}

// P6.4: of all operations the nodes are as the words say, and may be; of unlike Ats, in any order.
func TestFoldByWords(t *testing.T) {
	r := rand.New(rand.NewSource(5))
	for range 3000 {
		l := someOps(r, r.Intn(40))
		made := Fold(l)
		if want := wantFold(l); !slices.Equal(made, want) || !Check(made) {
			t.Fatalf("%v: %v, not %v", l, made, want)
		}
		var one []api.Node
		alone := map[api.Stamp]bool{}
		l = slices.DeleteFunc(l, func(o api.Op) bool {
			twice := alone[o.At]
			alone[o.At] = true
			return twice
		})
		made = Fold(l)
		r.Shuffle(len(l), func(i, k int) { l[i], l[k] = l[k], l[i] })
		if other := Fold(l); !slices.Equal(other, made) {
			t.Fatalf("%v: %v, not %v", l, other, made)
		}
		slices.SortFunc(l, func(a, b api.Op) int { return 64*(a.At.Counter-b.At.Counter) + a.At.Replica - b.At.Replica })
		for _, o := range l {
			one, _ = Do(one, o)
		}
		if !slices.Equal(one, made) {
			t.Fatalf("%v: %v, not %v", l, one, made)
		}
	}
}

// P6.5: what is done is taken back, one operation behind the other, and each changes one node alone, or none.
func TestTakenBack(t *testing.T) {
	r := rand.New(rand.NewSource(6))
	for range 2000 {
		l := someNodes(r)
		ops := someOps(r, 12)
		lists, undos := [][]api.Node{l}, []api.Undo{}
		for _, o := range ops {
			made, u := Do(l, o)
			for _, id := range slices.Concat(numbers(made), numbers(l)) {
				n, is := Find(made, id)
				if was, had := Find(l, id); (n != was || is != had) && (id != o.Node || !u.Did) {
					t.Fatalf("%v, %v: %d changed, %v", l, o, id, made)
				}
			}
			l = made
			lists, undos = append(lists, l), append(undos, u)
		}
		for i := len(ops) - 1; i >= 0; i-- {
			if l = Back(l, ops[i], undos[i]); !slices.Equal(l, lists[i]) {
				t.Fatalf("%v, %v: %v, not %v", ops[i], undos[i], l, lists[i])
			}
		}
	}
}

// P6.5: no node is above itself, whatever was done, in whatever order of stamps.
func TestNoneAboveItself(t *testing.T) {
	r := rand.New(rand.NewSource(7))
	loops := 0
	for range 1000 {
		ops := someOps(r, 40)
		l := Fold(ops)
		for _, o := range ops {
			var u api.Undo
			if l, u = Do(l, o); op.Check(o) && !u.Did {
				loops++
			}
			for _, id := range numbers(l) {
				if slices.Contains(Above(l, id), id) {
					t.Fatalf("%v: %d is above itself in %v", ops, id, l)
				}
			}
		}
	}
	if loops < 1000 {
		t.Errorf("only %d of them would loop", loops)
	}
}

// P6.5: the chapter's example: the last one does nothing.
func TestExample(t *testing.T) {
	l := []api.Op{moved(at(1, 0), 128, api.Root, "a"), moved(at(2, 0), 256, 128, "b"), moved(at(3, 0), 128, 256, "c")}
	made := Fold(l)
	if want := Fold(l[:2]); !slices.Equal(made, want) || len(made) != 2 {
		t.Errorf("%v, not %v", made, want)
	}
	nothingDone(t, made, l[2])
}

// roomy is l at the front of a list that has more, and that whole list.
func roomy(l []api.Node) ([]api.Node, []api.Node) {
	whole := append(slices.Clone(l), in(11, 22), in(33, 44), in(55, 66))
	return whole[:len(l)], whole
}

// spoil changes all of l, its spare room included.
func spoil[T any](l []T) {
	clear(l[:cap(l)])
}

// R3: what is handed in stays as it was, its spare room included, whatever becomes of the answer; two answers share nothing.
func TestMemory(t *testing.T) {
	var ops []api.Op
	r := rand.New(rand.NewSource(8))
	ops = append(someOps(r, 60), moved(at(1, 0), 128, 0, "x"), moved(at(20, 0), 1024, 0, "x"), written(at(12, 0), 129, "d"), moved(at(12, 0), 128, 384, "x"), api.Op{})
	for _, l := range slices.Concat(mayLists(), noneLists()) {
		given, whole := roomy(l)
		kept := slices.Clone(whole)
		for _, o := range ops {
			made, u := Do(given, o)
			want, _ := Do(given, o)
			want = slices.Clone(want)
			other, _ := Do(given, o)
			spoil(made)
			if !slices.Equal(other, want) {
				t.Fatalf("%v, %v: two answers share memory", l, o)
			}
			for _, undo := range []api.Undo{u, {}, {Did: true}, {Did: true, Had: true, Was: in(0, o.Node)}} {
				room, all := roomy(want)
				behind := slices.Clone(all)
				back, again := Back(room, o, undo), Back(room, o, undo)
				first := slices.Clone(again)
				spoil(back)
				if !slices.Equal(again, first) || !slices.Equal(all, behind) {
					t.Fatalf("%v, %v, %v: answers share memory", want, o, undo)
				}
			}
		}
		for _, id := range someIDs() {
			Find(given, id)
			up, again := Above(given, id), Above(given, id)
			spoil(up)
			if !slices.Equal(again, Above(given, id)) {
				t.Fatalf("%v, %d: two answers share memory", l, id)
			}
		}
		Check(given)
		if !slices.Equal(whole, kept) {
			t.Fatalf("%v: changed, %v", l, whole)
		}
	}
}

// R3: of operations, too.
func TestFoldMemory(t *testing.T) {
	r := rand.New(rand.NewSource(9))
	for range 200 {
		whole := someOps(r, 30)
		kept := slices.Clone(whole)
		made, again := Fold(whole[:20]), Fold(whole[:20])
		first := slices.Clone(again)
		spoil(made)
		if !slices.Equal(whole, kept) || !slices.Equal(again, first) {
			t.Fatalf("%v: changed, %v", kept, whole)
		}
	}
}

// R1: all calls end, in a time that is bearable, of many nodes and operations, and of what goes round.
func TestMany(t *testing.T) {
	began := time.Now()
	const many = 2000
	var ops []api.Op
	var ring []api.Node
	for i := range many {
		ops = append(ops, moved(at(i+1, 0), 128*(i+1), 128*i, "n"))
		ring = append(ring, in(128*((i+1)%many+1), 128*(i+1)))
	}
	row := Fold(ops)
	slices.Reverse(ops)
	if other := Fold(ops); !slices.Equal(row, other) || len(row) != many {
		t.Errorf("%d", len(row))
	}
	if all := Above(row, 128*many); len(all) != many || all[many-1] != 0 {
		t.Errorf("%d", len(all))
	}
	if all := Above(ring, 128); len(all) != many || all[many-1] != 128 {
		t.Errorf("%d", len(all))
	}
	nothingDone(t, ring, moved(at(many, 1), 128, 256, "n"))
	if _, u := Do(ring, moved(at(many, 1), 130, 256, "n")); u != (api.Undo{Did: true}) {
		t.Errorf("%v", u)
	}
	if wide := Fold(slices.Repeat(ops, 10)); !slices.Equal(wide, row) {
		t.Errorf("%d", len(wide))
	}
	if took := time.Since(began); took > 20*time.Second {
		t.Errorf("took %v", took)
	}
}
