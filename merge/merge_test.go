package merge

import (
	"math"
	"math/rand"
	"slices"
	"strings"
	"testing"
	"time"

	"gunwale/api"
	"gunwale/op"
	"gunwale/tree"
)

// at is a stamp.
func at(counter, replica int) api.Stamp { return api.Stamp{Counter: counter, Replica: replica} }

// moved, and written, are operations of both kinds.
func moved(s api.Stamp, node, parent int, name string) api.Op {
	return api.Op{At: s, Kind: api.OMove, Node: node, Parent: parent, Name: name}
}

func written(s api.Stamp, node int, data string) api.Op {
	return api.Op{At: s, Kind: api.OWrite, Node: node, Data: data}
}

// same tells whether two logs have the same entries, and the same nodes.
func same(a, b api.Log) bool {
	return slices.Equal(a.Entries, b.Entries) && slices.Equal(a.Nodes, b.Nodes)
}

// wantLog is by the words the log of operations that may be, of unlike Ats: each done behind those of lesser At.
func wantLog(l []api.Op) api.Log {
	l = slices.Clone(l)
	slices.SortFunc(l, func(a, b api.Op) int { return 64*(a.At.Counter-b.At.Counter) + a.At.Replica - b.At.Replica })
	var g api.Log
	for _, o := range l {
		nodes, u := tree.Do(g.Nodes, o)
		g = api.Log{Entries: append(g.Entries, api.Entry{Op: o, Undo: u}), Nodes: nodes}
	}
	return g
}

// wantTaken is by the words which operations are there, of had, behind all of l; and what each of l told.
func wantTaken(had, l []api.Op) ([]api.Op, []api.Errno) {
	had = slices.Clone(had)
	var told []api.Errno
	for _, o := range l {
		e := api.OK
		there := slices.ContainsFunc(had, func(h api.Op) bool { return h.At == o.At })
		switch {
		case !op.Check(o):
			e = api.ErrOp
		case there:
		case len(had) >= 200:
			e = api.ErrMany
		default:
			had = append(had, o)
		}
		told = append(told, e)
	}
	return had, told
}

// wantAdd looks whether Add, All and Of of l are as the words say, one by one, and tells their log.
func wantAdd(t *testing.T, l []api.Op) api.Log {
	t.Helper()
	had, told := wantTaken(nil, l)
	want := wantLog(had)
	var g api.Log
	wrong := 0
	for i, o := range l {
		next, e := Add(g, o)
		if e != told[i] || e != api.OK && !same(next, g) || Has(next, o.At) != (e == api.OK || Has(g, o.At)) {
			t.Fatalf("%v, %v: %v, %v, not %v", g, o, next, e, told[i])
		}
		if e != api.OK {
			wrong++
		}
		g = next
	}
	if !same(g, want) {
		t.Fatalf("%v: %v, not %v", l, g, want)
	}
	if all, n := All(api.Log{}, l); !same(all, want) || n != wrong {
		t.Fatalf("%v: %v, %d, not %v, %d", l, all, n, want, wrong)
	}
	if of := Of(l); !same(of, want) {
		t.Fatalf("%v: %v, not %v", l, of, want)
	}
	return g
}

// some are operations of both kinds and several replicas, by rising At, that make a tree of several levels, with a
// directory moved into another one, and that one into it.
func some() []api.Op {
	return []api.Op{
		moved(at(1, 0), 128, api.Root, "a"), moved(at(1, 1), 130, api.Root, "b"), moved(at(2, 0), 257, 128, "f"), written(at(2, 1), 257, "one"),
		moved(at(3, 0), 128, 130, "a"), moved(at(3, 1), 130, 128, "b"), written(at(4, 0), 257, "two"), moved(at(5, 63), 257, 130, "g"),
		moved(at(6, 0), 128, api.Trash, "a"), moved(at(6, 2), 130, 128, "b"), moved(at(7, 0), 128, api.Root, "a"),
	}
}

// wrongOps are operations that may not be, some of a stamp that is one of some.
func wrongOps() []api.Op {
	return []api.Op{
		{}, {At: at(1, 0)}, moved(at(0, 0), 128, 0, "a"), moved(at(-1, 0), 128, 0, "a"), moved(at(1048577, 0), 128, 0, "a"), moved(at(9, 64), 128, 0, "a"), moved(at(9, -1), 128, 0, "a"),
		moved(at(1, 0), 128, 0, ""), moved(at(1, 0), 128, 0, "a/b"), moved(at(9, 0), 128, 0, ".."), moved(at(9, 0), 128, 0, strings.Repeat("n", 21)), moved(at(9, 0), 128, 0, "\xff"),
		moved(at(9, 0), 127, 0, "a"), moved(at(9, 0), 0, 0, "a"), moved(at(9, 0), -1, 0, "a"), moved(at(9, 0), 128, 257, "a"), moved(at(9, 0), 128, -1, "a"), moved(at(9, 0), 128, 1, "a"),
		moved(at(1, 0), 256, 0, "a"), moved(at(1, 0), 128, 256, "a"), written(at(1, 0), 257, "x"), written(at(9, 0), 256, "x"), written(at(9, 0), 257, strings.Repeat("d", 65)),
		{At: at(9, 0), Kind: 3, Node: 129}, {At: at(9, 0), Kind: math.MinInt, Node: 129}, {At: at(9, 0), Kind: api.OWrite, Node: 257, Parent: 128}, {At: at(9, 0), Kind: api.OWrite, Node: 257, Name: "f"},
		moved(at(math.MaxInt, math.MaxInt), math.MaxInt, math.MinInt, "a"), {At: at(9, 0), Kind: api.OMove, Node: 128, Name: "a", Data: "d"},
	}
}

// row are n operations by rising At, from Counter 2 on, of few nodes.
func row(n int) []api.Op {
	var l []api.Op
	for i := range n {
		o := moved(at(2+i, i%3), 128+2*(i%7), api.Root, string(rune('a'+i%26)))
		if i%4 == 3 {
			o = written(at(2+i, i%3), 129+2*(i%5), string(rune('a'+i%26)))
		}
		l = append(l, o)
	}
	return l
}

// someOp is an operation that may be, in most cases, of few nodes and stamps.
func someOp(r *rand.Rand) api.Op {
	s := at(1+r.Intn(12), r.Intn(3))
	node, parent := 128*(1+r.Intn(6))+2*r.Intn(2), 128*r.Intn(7)
	switch r.Intn(8) {
	case 0:
		return written(s, node+1, string(rune('a'+r.Intn(26))))
	case 1:
		return moved(s, node+1, parent, "f")
	case 2:
		return moved(s, node, api.Trash, "t")
	case 3:
		return moved(s, node+r.Intn(2), parent, string("/.\x00n"[r.Intn(4)]))
	}
	return moved(at(6+r.Intn(60), r.Intn(2)), node, parent, string(rune('a'+r.Intn(26))))
}

func someOps(r *rand.Rand, n int) []api.Op {
	var l []api.Op
	for range n {
		l = append(l, someOp(r))
	}
	return l
}

// shuffled is l in another order.
func shuffled(r *rand.Rand, l []api.Op) []api.Op {
	l = slices.Clone(l)
	r.Shuffle(len(l), func(i, k int) { l[i], l[k] = l[k], l[i] })
	return l
}

// P7.1: the first operation of an empty log.
func TestAddFirst(t *testing.T) {
	for _, g := range []api.Log{{}, {Entries: []api.Entry{}, Nodes: []api.Node{}}} {
		made, e := Add(g, moved(at(3, 5), 128, api.Root, "a"))
		want := api.Log{
			Entries: []api.Entry{{Op: moved(at(3, 5), 128, api.Root, "a"), Undo: api.Undo{Did: true}}},
			Nodes:   []api.Node{{ID: 128, Parent: api.Root, Name: "a", Moved: at(3, 5)}},
		}
		if e != api.OK || !same(made, want) {
			t.Errorf("%v, %v", made, e)
		}
		// What does nothing has an entry, too.
		made, e = Add(g, moved(at(3, 5), 128, 128, "a"))
		want = api.Log{Entries: []api.Entry{{Op: moved(at(3, 5), 128, 128, "a")}}}
		if e != api.OK || !same(made, want) || !Has(made, at(3, 5)) {
			t.Errorf("%v, %v", made, e)
		}
	}
}

// P7.1: ahead of all entries, between any two, and behind all; by Counter first, and then by Replica.
func TestAddPlaces(t *testing.T) {
	had := []api.Op{moved(at(2, 1), 128, 0, "a"), moved(at(4, 0), 130, 128, "b"), written(at(4, 2), 129, "x"), moved(at(6, 0), 129, 130, "f")}
	g := wantLog(had)
	for _, c := range []struct {
		s     api.Stamp
		place int
	}{
		{at(1, 63), 0}, {at(2, 0), 0}, {at(2, 2), 1}, {at(3, 0), 1}, {at(3, 63), 1}, {at(4, 1), 2}, {at(4, 3), 3}, {at(5, 0), 3}, {at(5, 63), 3}, {at(6, 1), 4}, {at(7, 0), 4}, {at(1048576, 63), 4},
	} {
		for _, o := range []api.Op{moved(c.s, 129, 128, "g"), written(c.s, 129, "y"), moved(c.s, 128, 130, "c"), moved(c.s, 130, 0, "d")} {
			if !op.Check(o) {
				continue
			}
			made, e := Add(g, o)
			want := slices.Insert(slices.Clone(had), c.place, o)
			if e != api.OK || !slices.Equal(Ops(made), want) || !same(made, wantLog(want)) {
				t.Errorf("%v: %v, %v", o, made, e)
			}
			if !slices.Equal(made.Entries[:c.place], g.Entries[:c.place]) {
				t.Errorf("%v: entries ahead have changed, %v", o, made)
			}
		}
	}
}

// P7.1: what did something does nothing, when it is done again.
func TestDidNowDoesNot(t *testing.T) {
	a, b, late := moved(at(1, 0), 128, 0, "a"), moved(at(4, 0), 256, 128, "b"), moved(at(3, 0), 128, 256, "c")
	g := Of([]api.Op{a, b})
	if u := g.Entries[1].Undo; u != (api.Undo{Did: true}) {
		t.Fatalf("%v", g)
	}
	made, e := Add(g, late)
	want := api.Log{
		Entries: []api.Entry{{Op: a, Undo: api.Undo{Did: true}}, {Op: late, Undo: api.Undo{Did: true, Had: true, Was: api.Node{ID: 128, Name: "a", Moved: at(1, 0)}}}, {Op: b}},
		Nodes:   []api.Node{{ID: 128, Parent: 256, Name: "c", Moved: at(3, 0)}},
	}
	if e != api.OK || !same(made, want) {
		t.Errorf("%v, %v", made, e)
	}
}

// P7.1: what did nothing does something, when it is done again.
func TestDidNotNowDoes(t *testing.T) {
	a, b, into, late := moved(at(1, 0), 128, 0, "a"), moved(at(2, 0), 256, 128, "b"), moved(at(5, 0), 128, 256, "c"), moved(at(3, 0), 256, 0, "d")
	g := Of([]api.Op{a, b, into})
	if u := g.Entries[2].Undo; u != (api.Undo{}) {
		t.Fatalf("%v", g)
	}
	made, e := Add(g, late)
	nodeA, nodeB := api.Node{ID: 128, Name: "a", Moved: at(1, 0)}, api.Node{ID: 256, Parent: 128, Name: "b", Moved: at(2, 0)}
	want := api.Log{
		Entries: []api.Entry{{Op: a, Undo: api.Undo{Did: true}}, {Op: b, Undo: api.Undo{Did: true}}, {Op: late, Undo: api.Undo{Did: true, Had: true, Was: nodeB}}, {Op: into, Undo: api.Undo{Did: true, Had: true, Was: nodeA}}},
		Nodes:   []api.Node{{ID: 128, Parent: 256, Name: "c", Moved: at(5, 0)}, {ID: 256, Name: "d", Moved: at(3, 0)}},
	}
	if e != api.OK || !same(made, want) {
		t.Errorf("%v, %v", made, e)
	}
}

// P7.1: each entry's Undo is the one that its doing told last: of a node that was not there, and is now, and as it was.
func TestUndoIsNew(t *testing.T) {
	write, again := written(at(5, 0), 129, "x"), moved(at(6, 0), 129, 0, "f")
	g := Of([]api.Op{write, again})
	early := moved(at(3, 0), 129, 128, "e")
	made, e := Add(g, early)
	first := api.Node{ID: 129, Parent: 128, Name: "e", Moved: at(3, 0)}
	second := api.Node{ID: 129, Parent: 128, Name: "e", Moved: at(3, 0), Data: "x", Wrote: at(5, 0)}
	want := api.Log{
		Entries: []api.Entry{{Op: early, Undo: api.Undo{Did: true}}, {Op: write, Undo: api.Undo{Did: true, Had: true, Was: first}}, {Op: again, Undo: api.Undo{Did: true, Had: true, Was: second}}},
		Nodes:   []api.Node{{ID: 129, Name: "f", Moved: at(6, 0), Data: "x", Wrote: at(5, 0)}},
	}
	if e != api.OK || !same(made, want) {
		t.Errorf("%v, %v", made, e)
	}
}

// P7.1: an operation that may not be: ErrOp, and the log as it was, with entries and without, full ones among them.
func TestAddWrong(t *testing.T) {
	for _, g := range []api.Log{{}, wantLog(some()[:1]), wantLog(some()), wantLog(row(199)), wantLog(row(200)), wantLog(append(row(199), moved(at(1, 0), 128, 0, "a")))} {
		for _, o := range wrongOps() {
			if made, e := Add(g, o); e != api.ErrOp || !same(made, g) {
				t.Errorf("%d, %v: %v", len(g.Entries), o, e)
			}
		}
	}
}

// P7.1: one whose At is there: OK, and the log as it was, whatever else it says.
func TestAddThere(t *testing.T) {
	g := wantLog(some())
	for _, o := range some() {
		for _, other := range []api.Op{o, moved(o.At, 128, 0, "other"), moved(o.At, 128, 128, "loop"), moved(o.At, 129, api.Trash, "f"), written(o.At, 129, "other")} {
			if !op.Check(other) {
				t.Fatalf("%v may not be", other)
			}
			if made, e := Add(g, other); e != api.OK || !same(made, g) {
				t.Errorf("%v: %v, %v", other, made, e)
			}
		}
	}
}

// P7.1: there is room for MaxOps entries; in a full log what may not be, what is there, and what is new are told so.
func TestFull(t *testing.T) {
	if api.MaxOps != 200 {
		t.Fatalf("%d", api.MaxOps)
	}
	for _, last := range []api.Op{moved(at(1, 0), 128, 0, "a"), moved(at(100, 60), 128, 0, "a"), moved(at(900, 0), 128, 0, "a")} {
		one := wantLog(row(199))
		full, e := Add(one, last)
		if e != api.OK || !same(full, wantLog(append(row(199), last))) || len(full.Entries) != 200 {
			t.Fatalf("%v: %v, %d", last, e, len(full.Entries))
		}
		for _, o := range []api.Op{moved(at(1, 1), 128, 0, "n"), moved(at(77, 61), 128, 0, "n"), moved(at(901, 0), 128, 0, "n"), written(at(901, 0), 129, "n"), moved(at(901, 0), 128, 128, "n")} {
			if made, e := Add(full, o); e != api.ErrMany || !same(made, full) {
				t.Errorf("%v: %v", o, e)
			}
			// A wrong one is told first, and then that it is there.
			o.Kind = 3
			if made, e := Add(full, o); e != api.ErrOp || !same(made, full) {
				t.Errorf("%v: %v", o, e)
			}
		}
		for _, o := range append(row(199), last, moved(last.At, 128, 0, "other"), moved(at(2, 0), 130, 0, "other")) {
			if made, e := Add(full, o); e != api.OK || !same(made, full) {
				t.Errorf("%v: %v", o, e)
			}
		}
	}
}

// P7.1: of errors that meet, the one that is named first: what may not be, ahead of what is there, and of no room.
func TestErrorsMeet(t *testing.T) {
	full := wantLog(row(200))
	for _, c := range []struct {
		g    api.Log
		o    api.Op
		want api.Errno
	}{
		{wantLog(row(3)), moved(at(2, 0), 128, 0, ""), api.ErrOp}, {full, moved(at(2, 0), 128, 0, ""), api.ErrOp}, {full, moved(at(999, 0), 128, 0, ""), api.ErrOp},
		{full, moved(at(2, 0), 128, 0, "a"), api.OK}, {full, moved(at(2, 0), 128, 128, "z"), api.OK}, {full, moved(at(2, 1), 128, 0, "a"), api.ErrMany}, {wantLog(row(3)), moved(at(2, 1), 128, 0, "a"), api.OK},
	} {
		if _, e := Add(c.g, c.o); e != c.want {
			t.Errorf("%d, %v: %v, not %v", len(c.g.Entries), c.o, e, c.want)
		}
	}
}

// P7.1, P7.2: operations of all kinds, in all orders of few, and in many orders of many, are as the words say.
func TestAddByWords(t *testing.T) {
	var orders func(done, left []api.Op)
	orders = func(done, left []api.Op) {
		if len(left) == 0 {
			wantAdd(t, done)
		}
		for i, o := range left {
			orders(append(slices.Clone(done), o), slices.Delete(slices.Clone(left), i, i+1))
		}
	}
	orders(nil, some()[:6])
	r := rand.New(rand.NewSource(1))
	for range 500 {
		wantAdd(t, shuffled(r, some()))
		wantAdd(t, someOps(r, r.Intn(40)))
	}
	wantAdd(t, slices.Concat(wrongOps(), some(), wrongOps(), some()))
}

// P7.2: all, in order, and how many told an error: none of no operations, nor of doubles; those that may not be, and
// those for which there is no room.
func TestAll(t *testing.T) {
	other := moved(at(1, 0), 128, 0, "other")
	back := row(204)
	slices.Reverse(back)
	for i, c := range []struct {
		had, l, want []api.Op
		wrong        int
	}{
		{nil, nil, nil, 0}, {nil, []api.Op{}, nil, 0}, {some(), nil, some(), 0}, {nil, some(), some(), 0}, {some()[4:], some()[:4], some(), 0}, {some()[:4], some()[4:], some(), 0},
		{nil, wrongOps(), nil, len(wrongOps())}, {some(), wrongOps(), some(), len(wrongOps())}, {nil, slices.Concat(wrongOps()[:2], some(), wrongOps()[2:5]), some(), 5},
		{some(), some(), some(), 0}, {nil, slices.Repeat(some(), 3), some(), 0}, {some()[:1], []api.Op{other, other}, some()[:1], 0}, {nil, []api.Op{other, some()[0]}, []api.Op{other}, 0},
		{nil, row(200), row(200), 0}, {nil, row(201), row(200), 1}, {nil, row(204), row(200), 4}, {row(199), row(204)[199:], row(200), 4}, {row(200), row(204), row(200), 4}, {nil, back, row(204)[4:], 4},
		{nil, slices.Concat(row(203), []api.Op{{}, back[0]}, row(200)), row(200), 5}, {row(200), wrongOps(), row(200), len(wrongOps())},
	} {
		g, wrong := All(wantLog(c.had), c.l)
		if !same(g, wantLog(c.want)) || wrong != c.wrong {
			t.Errorf("%d: %v, %d, not %v, %d", i, Ops(g), wrong, c.want, c.wrong)
		}
	}
}

// P7.2: All is Add of each, of whatever log there was.
func TestAllIsAddOfEach(t *testing.T) {
	r := rand.New(rand.NewSource(2))
	for i := range 300 {
		g := Of(someOps(r, r.Intn(20)))
		l := someOps(r, r.Intn(20))
		if i%50 == 0 {
			g, l = Of(row(195)), append(l, shuffled(r, row(204))...)
		}
		want, n := g, 0
		for _, o := range l {
			var e api.Errno
			if want, e = Add(want, o); e != api.OK {
				n++
			}
		}
		if all, wrong := All(g, l); !same(all, want) || wrong != n {
			t.Fatalf("%v, %v: %v, %d, not %v, %d", g, l, all, wrong, want, n)
		}
	}
}

// P7.3: whether one of a time is there: of that Counter, and that Replica.
func TestHas(t *testing.T) {
	g := Of(some())
	for c := -1; c < 10; c++ {
		for r := -1; r < 65; r++ {
			want := slices.ContainsFunc(some(), func(o api.Op) bool { return o.At == at(c, r) })
			if Has(g, at(c, r)) != want {
				t.Errorf("%d, %d: %v", c, r, !want)
			}
			if Has(api.Log{}, at(c, r)) {
				t.Errorf("%d, %d: there is one in an empty log", c, r)
			}
		}
	}
	for _, s := range []api.Stamp{{}, at(math.MaxInt, 0), at(math.MinInt, 0), at(1, math.MaxInt), at(1048577, 64)} {
		if Has(g, s) || Has(api.Log{}, s) {
			t.Errorf("%v: there is one", s)
		}
		if !Has(api.Log{Entries: []api.Entry{{Op: api.Op{At: at(7, 7)}}, {Op: api.Op{At: s}}, {Op: api.Op{At: at(5, 5)}}}}, s) {
			t.Errorf("%v: there is none", s)
		}
	}
}

// P7.3: the operations of all entries, in order, those that did nothing among them; and the log of some.
func TestOps(t *testing.T) {
	for _, g := range []api.Log{{}, {Entries: []api.Entry{}}, {Nodes: []api.Node{{ID: 128}}}, Of(nil), Of([]api.Op{}), Of(wrongOps())} {
		if l := Ops(g); len(l) != 0 {
			t.Errorf("%v: %v", g, l)
		}
	}
	r := rand.New(rand.NewSource(3))
	for range 100 {
		g := Of(shuffled(r, some()))
		if l := Ops(g); !slices.Equal(l, some()) {
			t.Fatalf("%v", l)
		}
		if again := Of(Ops(g)); !same(again, g) {
			t.Fatalf("%v, not %v", again, g)
		}
	}
	g := Of(some())
	nothing := slices.ContainsFunc(g.Entries, func(e api.Entry) bool { return !e.Undo.Did })
	if !nothing || len(g.Entries) != len(some()) {
		t.Errorf("%v", g)
	}
	slices.Reverse(g.Entries)
	back := some()
	slices.Reverse(back)
	if l := Ops(g); !slices.Equal(l, back) {
		t.Errorf("%v", l)
	}
}

// P7.3: Of is as All of an empty log: no room behind MaxOps, none for what may not be, the first one of each At.
func TestOf(t *testing.T) {
	if g := Of(nil); len(g.Entries) != 0 || len(g.Nodes) != 0 {
		t.Errorf("%v", g)
	}
	if g := Of(wrongOps()); len(g.Entries) != 0 || len(g.Nodes) != 0 {
		t.Errorf("%v", g)
	}
	if g := Of(row(204)); !same(g, wantLog(row(200))) {
		t.Errorf("%d", len(g.Entries))
	}
	// What may not be, and what is there, takes no room.
	if g := Of(slices.Concat(wrongOps(), row(100), wrongOps(), row(200))); !same(g, wantLog(row(200))) {
		t.Errorf("%d", len(g.Entries))
	}
	one, two := moved(at(3, 0), 128, 0, "one"), moved(at(3, 0), 130, 0, "two")
	if g := Of([]api.Op{one, two, one}); !same(g, wantLog([]api.Op{one})) {
		t.Errorf("%v", g)
	}
	if g := Of([]api.Op{two, one, two}); !same(g, wantLog([]api.Op{two})) {
		t.Errorf("%v", g)
	}
}

// P7.4: in whatever order, how often, and in which parts operations come: the nodes are those of tree.Fold.
func TestFold(t *testing.T) {
	r := rand.New(rand.NewSource(4))
	loops := 0
	for i := range 400 {
		l := Ops(Of(someOps(r, 60)))
		if i%40 == 0 {
			l = row(200)
		}
		want := Of(l)
		if !slices.Equal(want.Nodes, tree.Fold(l)) {
			t.Fatalf("%v: %v, not %v", l, want.Nodes, tree.Fold(l))
		}
		come := shuffled(r, slices.Concat(l, l[:r.Intn(len(l)+1)], l[r.Intn(len(l)+1):]))
		var g api.Log
		for len(come) > 0 {
			part := 1 + r.Intn(len(come))
			var wrong int
			if g, wrong = All(g, come[:part]); wrong != 0 {
				t.Fatalf("%v: %d", come[:part], wrong)
			}
			come = come[part:]
		}
		if !same(g, want) || !slices.Equal(g.Nodes, tree.Fold(l)) {
			t.Fatalf("%v: %v, not %v", l, g, want)
		}
		for _, e := range g.Entries {
			if !e.Undo.Did {
				loops++
			}
		}
	}
	if loops < 400 {
		t.Errorf("only %d of them did nothing", loops)
	}
}

// P7.4: what is there can be taken back, entry by entry, to nothing: the Undos are those of these nodes.
func TestTakenBack(t *testing.T) {
	r := rand.New(rand.NewSource(5))
	for range 300 {
		g := Of(someOps(r, 60))
		nodes := g.Nodes
		for i := len(g.Entries) - 1; i >= 0; i-- {
			nodes = tree.Back(nodes, g.Entries[i].Op, g.Entries[i].Undo)
			if want := tree.Fold(Ops(g)[:i]); !slices.Equal(nodes, want) {
				t.Fatalf("%v, %d: %v, not %v", g, i, nodes, want)
			}
		}
	}
}

// P7.4: the chapter's example, and two directories that two replicas move into one another.
func TestExample(t *testing.T) {
	b, a := moved(at(2, 0), 256, 128, "b"), moved(at(1, 0), 128, api.Root, "a")
	want := []api.Node{{ID: 128, Name: "a", Moved: at(1, 0)}, {ID: 256, Parent: 128, Name: "b", Moved: at(2, 0)}}
	if g := Of([]api.Op{b, a}); !same(g, Of([]api.Op{a, b})) || !slices.Equal(g.Nodes, want) {
		t.Errorf("%v", g)
	}
	made := []api.Op{moved(at(1, 0), 128, 0, "a"), moved(at(1, 1), 130, 0, "b")}
	one, two := moved(at(2, 0), 128, 130, "a"), moved(at(2, 1), 130, 128, "b")
	here, _ := All(Of(append(made, one)), []api.Op{two})
	there, _ := All(Of(append(made, two)), []api.Op{one})
	want = []api.Node{{ID: 128, Parent: 130, Name: "a", Moved: at(2, 0)}, {ID: 130, Name: "b", Moved: at(1, 1)}}
	if !same(here, there) || !slices.Equal(here.Nodes, want) || here.Entries[3].Undo != (api.Undo{}) {
		t.Errorf("%v, %v", here, there)
	}
}

// roomy is l at the front of a list that has more, and that whole list.
func roomy[T any](l []T, more ...T) ([]T, []T) {
	whole := append(slices.Clone(l), more...)
	return whole[:len(l)], whole
}

// spoil changes all of l, its spare room included.
func spoil[T any](l []T) { clear(l[:cap(l)]) }

// kept is a log that has spare room, of some; what looks whether that log is still as it was.
func kept(g api.Log) (api.Log, func() bool) {
	entries, allEntries := roomy(g.Entries, api.Entry{Op: api.Op{Kind: 11}}, api.Entry{Op: api.Op{Kind: 22}})
	nodes, allNodes := roomy(g.Nodes, api.Node{ID: 33}, api.Node{ID: 44})
	wasEntries, wasNodes := slices.Clone(allEntries), slices.Clone(allNodes)
	return api.Log{Entries: entries, Nodes: nodes}, func() bool {
		return slices.Equal(allEntries, wasEntries) && slices.Equal(allNodes, wasNodes)
	}
}

// copied is g in memory of its own.
func copied(g api.Log) api.Log {
	return api.Log{Entries: slices.Clone(g.Entries), Nodes: slices.Clone(g.Nodes)}
}

// R3: what is handed in stays as it was, its spare room included, and whatever becomes of the answer; and two answers
// share nothing.
func TestAddMemory(t *testing.T) {
	r := rand.New(rand.NewSource(6))
	for _, had := range [][]api.Op{nil, some()[:1], some(), shuffled(r, row(199)), row(200)} {
		g, asItWas := kept(Of(had))
		late := []api.Op{moved(at(1, 5), 128, 0, "l"), moved(at(4, 9), 128, 0, "l"), moved(at(900, 0), 140, 0, "l"), written(at(900, 0), 257, "l"), moved(at(900, 0), 128, 128, "l")}
		for _, o := range slices.Concat(late, some(), wrongOps()) {
			one, _ := Add(g, o)
			two, _ := Add(g, o)
			want := copied(two)
			spoil(one.Entries)
			spoil(one.Nodes)
			if !asItWas() {
				t.Fatalf("%v, %v: what was handed in has changed", had, o)
			}
			if !same(two, want) {
				t.Fatalf("%v, %v: two answers share memory", had, o)
			}
		}
	}
}

// R3: of All, of Of, and of Ops, too.
func TestMemory(t *testing.T) {
	r := rand.New(rand.NewSource(7))
	for range 100 {
		g, asItWas := kept(Of(someOps(r, r.Intn(20))))
		l, whole := roomy(someOps(r, r.Intn(4)), api.Op{Kind: 55}, api.Op{Kind: 66})
		was := slices.Clone(whole)
		for _, call := range []func() api.Log{
			func() api.Log { made, _ := All(g, l); return made },
			func() api.Log { made, _ := All(g, nil); return made },
			func() api.Log { made, _ := All(g, Ops(g)); return made },
			func() api.Log { return Of(l) },
		} {
			one, two := call(), call()
			want := copied(two)
			spoil(one.Entries)
			spoil(one.Nodes)
			if !asItWas() || !slices.Equal(whole, was) || !same(two, want) {
				t.Fatalf("%v, %v: memory is shared", g, l)
			}
		}
		one, two := Ops(g), Ops(g)
		want := slices.Clone(two)
		spoil(one)
		if !asItWas() || !slices.Equal(two, want) {
			t.Fatalf("%v: memory of Ops is shared", g)
		}
	}
}

// handMade is a log that may not be, in most cases: entries in any order, Undos of anything, nodes that may not be.
func handMade(r *rand.Rand) api.Log {
	var g api.Log
	node := func() api.Node {
		id := []int{128 * r.Intn(7), r.Intn(1000), -1, 128 * 1048577, math.MaxInt, math.MinInt}[r.Intn(6)]
		return api.Node{ID: id, Parent: 128 * r.Intn(7), Name: "n", Moved: at(r.Intn(9), 0)}
	}
	for range r.Intn(6) * r.Intn(6) * r.Intn(12) {
		o := someOp(r)
		if r.Intn(4) == 0 {
			o = wrongOps()[r.Intn(len(wrongOps()))]
		}
		g.Entries = append(g.Entries, api.Entry{Op: o, Undo: api.Undo{Did: r.Intn(2) == 0, Had: r.Intn(2) == 0, Was: node()}})
	}
	for range r.Intn(9) {
		g.Nodes = append(g.Nodes, node())
	}
	if r.Intn(2) == 0 {
		g.Nodes = tree.Fold(someOps(r, 20))
	}
	return g
}

// R1: of logs made by hand there is some answer, none is changed, and what is there is told by the words.
func TestHandMade(t *testing.T) {
	r := rand.New(rand.NewSource(8))
	for range 3000 {
		g, asItWas := kept(handMade(r))
		o := someOp(r)
		if _, e := Add(g, o); e != api.ErrOp && e != api.ErrMany && e != api.OK {
			t.Fatalf("%v, %v: %v", g, o, e)
		}
		if _, n := All(g, []api.Op{o, o, {}}); n < 1 || n > 3 {
			t.Fatalf("%v, %v: %d", g, o, n)
		}
		var want []api.Op
		for _, e := range g.Entries {
			want = append(want, e.Op)
			if !Has(g, e.Op.At) {
				t.Fatalf("%v: none of %v", g, e.Op.At)
			}
		}
		has := slices.ContainsFunc(want, func(w api.Op) bool { return w.At == o.At })
		if !slices.Equal(Ops(g), want) || Has(g, o.At) != has || !asItWas() {
			t.Fatalf("%v: %v, %v", g, Ops(g), o)
		}
	}
}

// R1: a log that has more entries than there is room for takes no more.
func TestMoreThanFull(t *testing.T) {
	g := wantLog(row(201))
	if made, e := Add(g, moved(at(900, 0), 128, 0, "n")); e != api.ErrMany || !same(made, g) {
		t.Errorf("%v, %d", e, len(made.Entries))
	}
}

// R1: all calls end, in a time that is bearable: of a full log made from its end, and of very many operations.
func TestMany(t *testing.T) {
	began := time.Now()
	var deep []api.Op
	for i := range 200 {
		deep = append(deep, moved(at(i+1, 0), 128*(i+1), 128*i, "n"))
	}
	want := wantLog(deep)
	slices.Reverse(deep)
	if g := Of(deep); !same(g, want) || len(g.Nodes) != 200 {
		t.Errorf("%d", len(g.Entries))
	}
	g, wrong := All(Of(row(200)), slices.Repeat(append(row(203)[200:], api.Op{}), 100000))
	if wrong != 400000 || !same(g, wantLog(row(200))) {
		t.Errorf("%d", wrong)
	}
	if took := time.Since(began); took > 20*time.Second {
		t.Errorf("took %v", took)
	}
}
