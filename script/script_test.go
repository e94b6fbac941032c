package script_test

import (
	"maps"
	"math"
	"slices"
	"testing"

	"runaround/api"
	"runaround/script"
)

// most is how many boxes a list may have.
const most = 65536

// counted gives the box whose numbers are n, n + 1 and so on, each one more than the one ahead.
func counted(n int) api.Box {
	return api.Box{
		Depth:   n,
		Kind:    n + 1,
		Side:    n + 2,
		Clear:   n + 3,
		Width:   n + 4,
		Height:  n + 5,
		Margins: [4]int{n + 6, n + 7, n + 8, n + 9},
		Edges:   [4]int{n + 10, n + 11, n + 12, n + 13},
	}
}

// many gives the boxes whose numbers go on rising from 0, from box to box.
func many(boxes int) []api.Box {
	var l []api.Box
	for i := range boxes {
		l = append(l, counted(14*i))
	}
	return l
}

// rising gives the numbers from from on, as many as length says.
func rising(from, length int) []int {
	var n []int
	for i := range length {
		n = append(n, from+i)
	}
	return n
}

// fields gives all numbers of a box, each by a name, in no order that the chapter has.
func fields(b *api.Box) map[string]*int {
	return map[string]*int{
		"Depth": &b.Depth, "Kind": &b.Kind, "Side": &b.Side, "Clear": &b.Clear, "Width": &b.Width, "Height": &b.Height,
		"top margin": &b.Margins[0], "right margin": &b.Margins[1], "bottom margin": &b.Margins[2], "left margin": &b.Margins[3],
		"top edge": &b.Edges[0], "right edge": &b.Edges[1], "bottom edge": &b.Edges[2], "left edge": &b.Edges[3],
	}
}

// places tells where among a box's numbers each one stands.
var places = map[string]int{
	"Depth": 0, "Kind": 1, "Side": 2, "Clear": 3, "Width": 4, "Height": 5,
	"top margin": 6, "right margin": 7, "bottom margin": 8, "left margin": 9,
	"top edge": 10, "right edge": 11, "bottom edge": 12, "left edge": 13,
}

// odd has numbers that no box, or few, may have.
var odd = []int{math.MinInt, math.MinInt + 1, -api.MaxSize - 1, -7, -2, -1, 1, 6, 257, api.MaxSize + 1, math.MaxInt - 1, math.MaxInt}

// decoded gives the boxes of numbers of which nothing may be wrong.
func decoded(t *testing.T, n []int) []api.Box {
	t.Helper()
	l, e := script.Decode(n)
	if e != api.OK {
		t.Fatal(len(n), e)
	}
	return l
}

// P5.1: how many numbers a box has.
func TestSize(t *testing.T) {
	if script.Size != 14 {
		t.Error(script.Size)
	}
}

// P5.1, K1: example 1, and the other way round; a nil list and an empty one are the same.
func TestNone(t *testing.T) {
	for _, n := range [][]int{nil, {}} {
		if l, e := script.Decode(n); len(l) != 0 || e != api.OK {
			t.Error(n == nil, l, e)
		}
	}
	for _, l := range [][]api.Box{nil, {}} {
		if n := script.Encode(l); len(n) != 0 {
			t.Error(l == nil, n)
		}
		if count := script.Count(l); len(count) != 0 {
			t.Error(l == nil, count)
		}
	}
}

// P5.1: each of a box's numbers stands in its place, whatever the others are.
func TestOneBox(t *testing.T) {
	b := api.Box{Depth: 21, Kind: 4, Side: 17, Clear: 3, Width: 90, Height: -1, Margins: [4]int{5, -6, 7, 8}, Edges: [4]int{12, 11, 10, 9}}
	n := []int{21, 4, 17, 3, 90, -1, 5, -6, 7, 8, 12, 11, 10, 9}
	if got := script.Encode([]api.Box{b}); !slices.Equal(got, n) {
		t.Error(got)
	}
	if got := decoded(t, n); !slices.Equal(got, []api.Box{b}) {
		t.Error(got)
	}
}

// P5.1: each number by itself, also one that no box may have.
func TestEachNumber(t *testing.T) {
	for name, place := range places {
		for _, x := range odd {
			n, l := make([]int, 14), make([]api.Box, 1)
			n[place] = x
			*fields(&l[0])[name] = x
			if got := script.Encode(l); !slices.Equal(got, n) {
				t.Error(name, x, got)
			}
			if got := decoded(t, n); !slices.Equal(got, l) {
				t.Error(name, x, got)
			}
		}
	}
}

// P5.1: boxes all of whose numbers are one that no box may have.
func TestBoxesThatMayNotBe(t *testing.T) {
	for _, x := range odd {
		four := [4]int{x, x, x, x}
		b := api.Box{Depth: x, Kind: x, Side: x, Clear: x, Width: x, Height: x, Margins: four, Edges: four}
		n := slices.Repeat([]int{x}, 14)
		if got := script.Encode([]api.Box{b}); !slices.Equal(got, n) {
			t.Error(x, got)
		}
		if got := decoded(t, n); !slices.Equal(got, []api.Box{b}) {
			t.Error(x, got)
		}
	}
}

// P5.1: one box behind the other, in order, also two that are the same.
func TestSeveralBoxes(t *testing.T) {
	a, b := counted(100), api.Box{Kind: api.Float, Side: api.Left, Width: 3}
	l := []api.Box{a, b, {}, a}
	n := slices.Concat(
		rising(100, 14),
		[]int{0, 2, 1, 0, 3, 0, 0, 0, 0, 0, 0, 0, 0, 0},
		make([]int, 14),
		rising(100, 14),
	)
	if got := script.Encode(l); !slices.Equal(got, n) {
		t.Error(got)
	}
	if got := decoded(t, n); !slices.Equal(got, l) {
		t.Error(got)
	}
}

// P5.1: of what Encode gives Decode gives the boxes, and of what Decode gives Encode gives the numbers.
func TestThereAndBack(t *testing.T) {
	for _, boxes := range []int{0, 1, 2, 3, 13, 14, 15, 1000, most - 1, most} {
		l, n := many(boxes), rising(0, 14*boxes)
		if got := script.Encode(l); !slices.Equal(got, n) {
			t.Error(boxes, len(got))
		}
		if got := decoded(t, n); !slices.Equal(got, l) {
			t.Error(boxes, len(got))
		}
		if got := decoded(t, script.Encode(l)); !slices.Equal(got, l) {
			t.Error(boxes, len(got))
		}
		if got := script.Encode(decoded(t, n)); !slices.Equal(got, n) {
			t.Error(boxes, len(got))
		}
	}
}

// P5.1: Encode knows no limit: of more boxes than a script may have it gives the numbers.
func TestEncodeOfTooMany(t *testing.T) {
	if n := script.Encode(many(most + 1)); !slices.Equal(n, rising(0, 14*(most+1))) {
		t.Error(len(n))
	}
}

// P5.1, K2, K3: which lengths are whole boxes, and few enough; no boxes are answered beside an error.
func TestLengths(t *testing.T) {
	for _, x := range []struct {
		length, boxes int
		want          api.Errno
	}{
		{0, 0, api.OK},
		{1, 0, api.ErrShort},
		{2, 0, api.ErrShort},
		{7, 0, api.ErrShort},
		{12, 0, api.ErrShort},
		{13, 0, api.ErrShort},
		{14, 1, api.OK},
		{15, 0, api.ErrShort},
		{16, 0, api.ErrShort},
		{21, 0, api.ErrShort},
		{27, 0, api.ErrShort},
		{28, 2, api.OK},
		{29, 0, api.ErrShort},
		{most, 0, api.ErrShort},
		{14 * (most - 1), most - 1, api.OK},
		{14*most - 1, 0, api.ErrShort},
		{14 * most, most, api.OK},
		{14*most + 1, 0, api.ErrShort},
		{14*most + 13, 0, api.ErrShort},
		{14 * (most + 1), 0, api.ErrMany},
		{14*(most+1) + 1, 0, api.ErrShort},
		{14*(most+2) - 1, 0, api.ErrShort},
		{14 * (most + 2), 0, api.ErrMany},
		{14 * 2 * most, 0, api.ErrMany},
		{14*2*most + 7, 0, api.ErrShort},
	} {
		if l, e := script.Decode(make([]int, x.length)); len(l) != x.boxes || e != x.want {
			t.Error(x.length, len(l), e)
		}
	}
}

// P5.1: whether a box may be isn't asked: of no length does what the numbers are change the answer.
func TestDecodeAsksForLengthAlone(t *testing.T) {
	for _, x := range odd {
		for length, want := range map[int]api.Errno{13: api.ErrShort, 15: api.ErrShort, 28: api.OK, 14 * (most + 1): api.ErrMany} {
			if _, e := script.Decode(slices.Repeat([]int{x}, length)); e != want {
				t.Error(x, length, e)
			}
		}
	}
}

// P5.1: as many keys as there are Kinds among the boxes, whether they are kinds or not, and no other.
func TestCount(t *testing.T) {
	for i, x := range []struct {
		kinds []int
		want  map[int]int
	}{
		{[]int{}, map[int]int{}},
		{[]int{api.Block}, map[int]int{1: 1}},
		{[]int{api.Atom, api.Atom, api.Atom}, map[int]int{5: 3}},
		{[]int{1, 2, 3, 4, 5}, map[int]int{1: 1, 2: 1, 3: 1, 4: 1, 5: 1}},
		{[]int{3, 5, 1, 5, 2, 4, 5, 4, 2, 5, 5, 4, 1, 4, 2}, map[int]int{1: 2, 2: 3, 3: 1, 4: 4, 5: 5}},
		{[]int{0}, map[int]int{0: 1}},
		{[]int{0, 6, 0}, map[int]int{0: 2, 6: 1}},
		{[]int{-1, 1, -1, -5}, map[int]int{-1: 2, 1: 1, -5: 1}},
		{[]int{math.MinInt, math.MaxInt, math.MinInt}, map[int]int{math.MinInt: 2, math.MaxInt: 1}},
		{[]int{math.MaxInt, 6, -1, 2, 0, math.MinInt, 2}, map[int]int{math.MaxInt: 1, 6: 1, -1: 1, 2: 2, 0: 1, math.MinInt: 1}},
	} {
		var l []api.Box
		for n, kind := range x.kinds {
			b := counted(100 * n)
			b.Kind = kind
			l = append(l, b)
		}
		if got := script.Count(l); !maps.Equal(got, x.want) {
			t.Error(i, got)
		}
	}
}

// P5.1: Count knows no limit.
func TestCountOfMany(t *testing.T) {
	l := make([]api.Box, 3*most)
	for i := range l {
		l[i].Kind = i % 3
	}
	if got := script.Count(l); !maps.Equal(got, map[int]int{0: most, 1: most, 2: most}) {
		t.Error(got)
	}
}

// K5: what is handed in isn't changed, nor what lies behind it in the same memory.
func TestHandedInIsNotChanged(t *testing.T) {
	n := rising(5, 42)
	for length := range len(n) + 1 {
		script.Decode(n[:length])
		if !slices.Equal(n, rising(5, 42)) {
			t.Fatal(length, n)
		}
	}
	l := many(4)
	for length := range len(l) + 1 {
		script.Encode(l[:length])
		script.Count(l[:length])
		if !slices.Equal(l, many(4)) {
			t.Fatal(length, l)
		}
	}
}

// K5: a list that is changed behind the call changes no answer.
func TestHandedInIsNotKept(t *testing.T) {
	l, n := many(2), rising(0, 28)
	encoded, boxes, count := script.Encode(l), decoded(t, n), script.Count(l)
	clear(l)
	clear(n)
	if !slices.Equal(encoded, rising(0, 28)) {
		t.Error(encoded)
	}
	if !slices.Equal(boxes, many(2)) {
		t.Error(boxes)
	}
	if !maps.Equal(count, map[int]int{1: 1, 15: 1}) {
		t.Error(count)
	}
}

// K5, K6: an answer that is changed, or made longer, changes neither the list nor a later answer.
func TestAnswersAreNew(t *testing.T) {
	l, n := many(2), rising(0, 28)
	encoded, boxes, count := script.Encode(l[:1]), decoded(t, n[:14]), script.Count(l)
	clear(append(encoded, 7))
	clear(encoded)
	clear(append(boxes, api.Box{Kind: 7}))
	clear(boxes)
	count[1], count[8] = 9, 9
	delete(count, 15)
	if !slices.Equal(l, many(2)) || !slices.Equal(n, rising(0, 28)) {
		t.Error(l, n)
	}
	if got := script.Encode(l); !slices.Equal(got, rising(0, 28)) {
		t.Error(got)
	}
	if got := decoded(t, n); !slices.Equal(got, many(2)) {
		t.Error(got)
	}
	if got := script.Count(l); !maps.Equal(got, map[int]int{1: 1, 15: 1}) {
		t.Error(got)
	}
}

// K5: Count's answer of no boxes is a map of its own, too: what is stored into it is in no later one.
func TestCountOfNoneIsNew(t *testing.T) {
	count := script.Count(nil)
	if count != nil {
		count[api.Block] = 1
	}
	if got := script.Count(nil); len(got) != 0 {
		t.Error(got)
	}
	if got := script.Count([]api.Box{{Kind: api.Text}}); !maps.Equal(got, map[int]int{4: 1}) {
		t.Error(got)
	}
}

// K6: a call that answered an error leaves nothing for a later one.
func TestErrorsLeaveNothing(t *testing.T) {
	for _, length := range []int{13, 14 * (most + 1)} {
		script.Decode(rising(0, length))
		if got := decoded(t, rising(0, 14)); !slices.Equal(got, many(1)) {
			t.Error(length, got)
		}
		if got := decoded(t, nil); len(got) != 0 {
			t.Error(length, got)
		}
	}
}
