package walk_test

import (
	"iter"
	"math"
	"slices"
	"testing"

	"runaround/api"
	"runaround/tree"
	"runaround/walk"
)

// most is how many boxes a tree may have, deepest how deep they may lie.
const (
	most    = 65536
	deepest = 256
)

// box gives a box of a kind of which nothing else is wrong.
func box(depth, kind int) api.Box {
	b := api.Box{Depth: depth, Kind: kind}
	if kind == api.Float {
		b.Side = api.Right
	}
	return b
}

// listed gives the boxes of depths and kinds, which stand in turn.
func listed(depthsAndKinds ...int) []api.Box {
	var l []api.Box
	for pair := range slices.Chunk(depthsAndKinds, 2) {
		l = append(l, box(pair[0], pair[1]))
	}
	return l
}

// chain gives a Root and boxes down to a depth, each in the one ahead, of these kinds by turns.
func chain(depth int, kinds ...int) []api.Box {
	l := listed(0, api.Root)
	for d := range depth {
		l = append(l, box(d+1, kinds[d%len(kinds)]))
	}
	return l
}

// flat gives a Root and boxes that stand in it, so many in all, of these kinds by turns.
func flat(boxes int, kinds ...int) []api.Box {
	l := listed(0, api.Root)
	for i := range boxes - 1 {
		l = append(l, box(1, kinds[i%len(kinds)]))
	}
	return l
}

// grown gives boxes that are a tree. seed chooses them, by a rule of its own; steep ones lie deeper.
func grown(seed uint64, boxes int, steep bool) []api.Box {
	l := listed(0, api.Root)
	for len(l) < boxes {
		seed = seed*6364136223846793005 + 1442695040888963407
		chosen := int(seed >> 34)
		last := l[len(l)-1].Depth
		depth := 1 + chosen%(last+1)
		if steep {
			depth = max(1, last+1-chosen%3)
		}
		grownBy := append(l, box(min(depth, deepest), 1+chosen/1000%5))
		if _, _, e := tree.Build(grownBy); e == api.OK {
			l = grownBy
		}
	}
	return l
}

// several gives lists of boxes that are trees.
func several() [][]api.Box {
	const block, float, root, text, atom = api.Block, api.Float, api.Root, api.Text, api.Atom
	all := [][]api.Box{
		listed(0, root),
		listed(0, root, 1, block),
		listed(0, root, 1, float),
		listed(0, root, 1, root),
		listed(0, root, 1, text),
		listed(0, root, 1, float, 1, float, 1, root, 1, text, 1, block),
		listed(0, root, 1, block, 2, block, 3, block, 2, block, 1, block),
		listed(0, root, 1, float, 2, float, 3, float, 2, root, 3, root, 1, root, 2, float),
		listed(0, root, 1, text, 2, atom, 2, float, 2, atom, 2, float, 3, text, 4, atom, 4, float, 2, atom),
		listed(0, root, 1, float, 2, float, 3, float, 3, block, 2, root, 1, block, 2, text, 3, float, 4, root, 5, block, 1, text),
		listed(0, root, 1, block, 2, root, 3, block, 4, float, 5, block, 6, text, 7, atom, 3, block, 2, block, 1, block),
		chain(9, block),
		chain(9, float),
		chain(9, root),
		chain(12, block, float, block, root),
		chain(deepest, block),
		flat(60, block),
		flat(60, float, block, root, text),
	}
	for seed := range 24 {
		all = append(all, grown(uint64(seed), 2+3*seed, seed%2 == 1))
	}
	return all
}

// built gives the tree of boxes of which nothing may be wrong.
func built(t *testing.T, l []api.Box) *tree.Tree {
	t.Helper()
	x, at, e := tree.Build(l)
	if e != api.OK {
		t.Fatal(len(l), at, e)
	}
	return x
}

// aroundOf looks through the list for the boxes in which one stands, the outermost one first: of the boxes
// ahead the last one of each lesser depth.
func aroundOf(l []api.Box, i int) []int {
	var places []int
	depth := l[i].Depth
	for j := i - 1; j >= 0; j-- {
		if l[j].Depth == depth-1 {
			places = append([]int{j}, places...)
			depth--
		}
	}
	return places
}

// open tells whether a box is a Float or a Root.
func open(b api.Box) bool { return b.Kind == api.Float || b.Kind == api.Root }

// contextsOf looks for the last Float or Root around each box; there is none around the first one.
func contextsOf(l []api.Box) []int {
	contexts := make([]int, len(l))
	for i := range l {
		contexts[i] = -1
		for _, j := range aroundOf(l, i) {
			if open(l[j]) {
				contexts[i] = j
			}
		}
	}
	return contexts
}

// allOf gives the events of a walk of all boxes: a box is left ahead of the first one behind it that isn't deeper.
func allOf(l []api.Box) []walk.Event {
	var events []walk.Event
	var entered []int
	leave := func(depth int) {
		for len(entered) > 0 && l[entered[len(entered)-1]].Depth >= depth {
			events = append(events, walk.Event{At: entered[len(entered)-1], Leave: true})
			entered = entered[:len(entered)-1]
		}
	}
	for i, b := range l {
		leave(b.Depth)
		events = append(events, walk.Event{At: i})
		entered = append(entered, i)
	}
	leave(0)
	return events
}

// eventsOf picks of all events those of the boxes of each place's own context.
func eventsOf(l []api.Box) [][]walk.Event {
	events, contexts := make([][]walk.Event, len(l)), contextsOf(l)
	for _, e := range allOf(l) {
		if context := contexts[e.At]; context >= 0 {
			events[context] = append(events[context], e)
		}
	}
	return events
}

// membersOf gives the boxes of each place's own context.
func membersOf(l []api.Box) [][]int {
	members := make([][]int, len(l))
	for i, context := range contextsOf(l) {
		if context >= 0 {
			members[context] = append(members[context], i)
		}
	}
	return members
}

// others gives places that a tree of so many boxes hasn't.
func others(boxes int) []int {
	return []int{-1, boxes, -2, boxes + 1, most, math.MinInt, math.MinInt + 1, math.MaxInt - 1, math.MaxInt, math.MinInt32, math.MaxInt32 + 1}
}

// walks gives a tree's walks by the events that each should have: the first one is All's, then each place's.
func walks(t *testing.T, l []api.Box) (*tree.Tree, []iter.Seq[walk.Event], [][]walk.Event) {
	t.Helper()
	x := built(t, l)
	values := []iter.Seq[walk.Event]{walk.All(x)}
	for at := range l {
		values = append(values, walk.Context(x, at))
	}
	return x, values, append([][]walk.Event{allOf(l)}, eventsOf(l)...)
}

// same tells whether a walk has these events, and tells it if not.
func same(t *testing.T, value iter.Seq[walk.Event], want []walk.Event) {
	t.Helper()
	if events := slices.Collect(value); !slices.Equal(events, want) {
		t.Error(events, "not", want)
	}
}

// holds tells whether all walks, members and paths are what the list says, and tells where they aren't.
func holds(t *testing.T, x *tree.Tree, l []api.Box) {
	t.Helper()
	events, ofContexts := eventsOf(l), membersOf(l)
	same(t, walk.All(x), allOf(l))
	for at := range l {
		same(t, walk.Context(x, at), events[at])
		if members := walk.Members(x, at); !slices.Equal(members, ofContexts[at]) {
			t.Error("Members", at, members, l)
		}
		if path := walk.Path(x, at); !slices.Equal(path, aroundOf(l, at)) {
			t.Error("Path", at, path, l)
		}
	}
}

// in and out are the events of a place.
func in(at int) walk.Event  { return walk.Event{At: at} }
func out(at int) walk.Event { return walk.Event{At: at, Leave: true} }

// P7.1: example 1.
func TestExample(t *testing.T) {
	x := built(t, listed(0, api.Root, 1, api.Block))
	same(t, walk.All(x), []walk.Event{in(0), in(1), out(1), out(0)})
	same(t, walk.Context(x, 0), []walk.Event{in(1), out(1)})
}

// P7.1, P7.2: a Root alone has nothing within it, nor around it.
func TestRootAlone(t *testing.T) {
	x := built(t, listed(0, api.Root))
	same(t, walk.All(x), []walk.Event{in(0), out(0)})
	same(t, walk.Context(x, 0), nil)
	if members, path := walk.Members(x, 0), walk.Path(x, 0); len(members) != 0 || len(path) != 0 {
		t.Error(members, path)
	}
}

// P7.1, P7.2: a tree whose answers are written out.
func TestAnswers(t *testing.T) {
	x := built(t, listed(
		0, api.Root,
		1, api.Text, 2, api.Atom, 2, api.Float, 3, api.Block, 4, api.Float, 5, api.Text,
		1, api.Root, 2, api.Block,
		1, api.Block,
	))
	same(t, walk.All(x), []walk.Event{
		in(0), in(1), in(2), out(2), in(3), in(4), in(5), in(6), out(6), out(5), out(4), out(3), out(1),
		in(7), in(8), out(8), out(7), in(9), out(9), out(0),
	})
	for at, want := range [][]walk.Event{
		0: {in(1), in(2), out(2), in(3), out(3), out(1), in(7), out(7), in(9), out(9)},
		3: {in(4), in(5), out(5), out(4)},
		5: {in(6), out(6)},
		7: {in(8), out(8)},
		9: nil,
	} {
		same(t, walk.Context(x, at), want)
	}
	for at, want := range [][]int{0: {1, 2, 3, 7, 9}, 3: {4, 5}, 5: {6}, 7: {8}, 9: nil} {
		if members := walk.Members(x, at); !slices.Equal(members, want) {
			t.Error(at, members)
		}
	}
	for at, want := range [][]int{nil, {0}, {0, 1}, {0, 1}, {0, 1, 3}, {0, 1, 3, 4}, {0, 1, 3, 4, 5}, {0}, {0, 7}, {0}} {
		if path := walk.Path(x, at); !slices.Equal(path, want) {
			t.Error(at, path)
		}
	}
}

// P7.1, P7.2: several trees, each held against the chapter's words.
func TestSeveralTrees(t *testing.T) {
	for _, l := range several() {
		holds(t, built(t, l), l)
	}
}

// P7.1: All enters each box once, and leaves it once; each context enters those that are its own, and together
// they enter all boxes but the first one.
func TestEachBoxOnce(t *testing.T) {
	for _, l := range several() {
		x := built(t, l)
		seen := map[walk.Event]int{}
		for e := range walk.All(x) {
			seen[e]++
		}
		for at := range l {
			for e := range walk.Context(x, at) {
				seen[e]++
			}
		}
		for i := range l {
			if want := min(i, 1) + 1; seen[in(i)] != want || seen[out(i)] != want {
				t.Error(i, seen[in(i)], seen[out(i)], l)
			}
		}
		if len(seen) != 2*len(l) {
			t.Error(len(seen), len(l))
		}
	}
}

// P7.1: a Float or a Root in another context is left at once, whatever stands in it, and isn't in its own.
func TestInnerContextsAreLeftAtOnce(t *testing.T) {
	for _, l := range several() {
		x := built(t, l)
		for at := range l {
			events := slices.Collect(walk.Context(x, at))
			for n, e := range events {
				if e.At == at {
					t.Error(at, "is in its own context", l)
				}
				if !e.Leave && open(l[e.At]) && (n+1 == len(events) || events[n+1] != out(e.At)) {
					t.Error(at, e.At, "isn't left at once", l)
				}
			}
		}
	}
}

// P7.1, P7.2: Blocks, Texts and Atoms have no context of their own, with boxes in them and without.
func TestNoContext(t *testing.T) {
	for _, l := range several() {
		x := built(t, l)
		for at, b := range l {
			if open(b) {
				continue
			}
			same(t, walk.Context(x, at), nil)
			if members := walk.Members(x, at); len(members) != 0 {
				t.Error(at, members, l)
			}
		}
	}
}

// P7.1, P7.2: of places that the tree hasn't.
func TestOtherPlaces(t *testing.T) {
	for _, l := range several() {
		x := built(t, l)
		for _, at := range others(len(l)) {
			same(t, walk.Context(x, at), nil)
			if members, path := walk.Members(x, at), walk.Path(x, at); len(members) != 0 || len(path) != 0 {
				t.Error(at, members, path, l)
			}
		}
	}
}

// P7.2: Members has what Context enters, and rises.
func TestMembersAreEntered(t *testing.T) {
	for _, l := range several() {
		x := built(t, l)
		for at := range l {
			var entered []int
			for e := range walk.Context(x, at) {
				if !e.Leave {
					entered = append(entered, e.At)
				}
			}
			members := walk.Members(x, at)
			if !slices.Equal(members, entered) {
				t.Error(at, members, entered, l)
			}
			for n, member := range members {
				if member <= at || n > 0 && member <= members[n-1] {
					t.Error(at, members, l)
				}
			}
		}
	}
}

// P7.1, P7.2: boxes each in the one ahead, as deep as may be, of kinds that have contexts and of others.
func TestDeepest(t *testing.T) {
	for _, kinds := range [][]int{{api.Block}, {api.Float}, {api.Root}, {api.Block, api.Float}} {
		l := append(chain(deepest-2, kinds...), box(deepest-1, api.Text), box(deepest, api.Atom), box(1, api.Block))
		x := built(t, l)
		holds(t, x, l)
		if path := walk.Path(x, deepest); len(path) != deepest || path[0] != 0 || path[deepest-1] != deepest-1 {
			t.Error(path)
		}
		n := 0
		for e := range walk.All(x) {
			if n < deepest && e != in(n) || n > deepest && n <= 2*deepest && e != out(2*deepest+1-n) {
				t.Fatal(n, e)
			}
			n++
		}
		if n != 2*len(l) {
			t.Error(n)
		}
	}
}

// P7.1, P7.2: as many boxes as may be, side by side.
func TestMostSideBySide(t *testing.T) {
	for _, kinds := range [][]int{{api.Block}, {api.Float}, {api.Text, api.Root, api.Float}} {
		l := flat(most, kinds...)
		x := built(t, l)
		want := allOf(l)
		same(t, walk.All(x), want)
		same(t, walk.Context(x, 0), want[1:len(want)-1])
		same(t, walk.Context(x, most-1), nil)
		same(t, walk.Context(x, most), nil)
		members := walk.Members(x, 0)
		if len(members) != most-1 || members[0] != 1 || members[most-2] != most-1 {
			t.Error(len(members))
		}
		if path := walk.Path(x, most-1); !slices.Equal(path, []int{0}) {
			t.Error(path)
		}
	}
}

// P7.1, P7.2: as many boxes as may be, up and down, as deep as may be, Blocks alone and Floats alone.
func TestMostUpAndDown(t *testing.T) {
	for _, kind := range []int{api.Block, api.Float} {
		l := chain(deepest, kind)
		for len(l)+deepest <= most {
			l = append(l, chain(deepest, kind)[1:]...)
		}
		x := built(t, l)
		want := allOf(l)
		same(t, walk.All(x), want)
		members := walk.Members(x, 0)
		if kind == api.Block {
			same(t, walk.Context(x, 0), want[1:len(want)-1])
			if len(members) != len(l)-1 {
				t.Error(len(members))
			}
			continue
		}
		same(t, walk.Context(x, 1), []walk.Event{in(2), out(2)})
		if len(members) != (len(l)-1)/deepest || members[1] != 1+deepest {
			t.Error(len(members))
		}
	}
}

// K6: neither the order in which walks are made nor another tree between changes what they have.
func TestWalksStandApart(t *testing.T) {
	all := several()
	var values [][]iter.Seq[walk.Event]
	var want [][][]walk.Event
	for _, l := range all {
		_, v, w := walks(t, l)
		values, want = append(values, v), append(want, w)
	}
	for n := range all {
		for i, value := range slices.Backward(values[n]) {
			same(t, value, want[n][i])
		}
	}
}

// K5: a tree is as it was, and an answer that is changed, or made longer, changes no later one.
func TestAnswersAreNew(t *testing.T) {
	for _, l := range several() {
		x := built(t, l)
		for range 2 {
			for at := range l {
				for _, answer := range [][]int{walk.Members(x, at), walk.Path(x, at), walk.Members(x, 0)} {
					clear(append(answer[:0], make([]int, cap(answer))...))
					clear(append(answer, -7))
				}
				for e := range walk.All(x) {
					e.At, e.Leave = -9, !e.Leave
				}
			}
			holds(t, x, l)
		}
		for i, b := range l {
			if x.Box(i) != b {
				t.Error(i, x.Box(i), b)
			}
		}
	}
}

// P7.1: events are held against each other by ==.
func TestEventsAreCompared(t *testing.T) {
	if in(3) != (walk.Event{3, false}) || out(3) != (walk.Event{3, true}) || in(3) == out(3) || in(3) == in(4) {
		t.Error(in(3), out(3), in(4))
	}
	entered := map[walk.Event]bool{}
	for e := range walk.All(built(t, flat(5, api.Block))) {
		if e.Leave && !entered[in(e.At)] {
			t.Error(e)
		}
		entered[e] = true
	}
}
