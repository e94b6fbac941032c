package layout_test

import (
	"math"
	"testing"

	"runaround/api"
	"runaround/layout"
	"runaround/script"
)

// refuses tells it if numbers aren't refused so, with nothing beside.
func refuses(t *testing.T, numbers []int, at int, e api.Errno) {
	t.Helper()
	g, gotAt, got := layout.Layout(numbers)
	if !nothing(g) || gotAt != at || got != e {
		t.Errorf("%d numbers: %v, %d, %v, not %d, %v", len(numbers), g, gotAt, got, at, e)
	}
}

// P19.2: numbers that are no whole boxes, or too many of them: Decode's error, and no place, whatever the boxes are.
func TestNoBoxes(t *testing.T) {
	may := script.Encode(page([4]int{}, block(1, 5)))
	for _, n := range []int{1, 13, 15, 27, 29} {
		refuses(t, make([]int, n), -1, api.ErrShort)
	}
	for n := range len(may) {
		if n%script.Size > 0 {
			refuses(t, may[:n], -1, api.ErrShort)
		}
	}
	refuses(t, append(may, 0), -1, api.ErrShort)
	refuses(t, []int{math.MinInt, math.MaxInt}, -1, api.ErrShort)
	refuses(t, make([]int, script.Size*(api.MaxBoxes+1)), -1, api.ErrMany)
	refuses(t, make([]int, script.Size*(api.MaxBoxes+1)-1), -1, api.ErrShort)
	refuses(t, make([]int, script.Size*(api.MaxBoxes+1)+1), -1, api.ErrShort)
	refuses(t, make([]int, script.Size*2*api.MaxBoxes), -1, api.ErrMany)
}

// P19.2: as many boxes as may be are laid; one more is Decode's to refuse, not Build's, which would tell its place.
func TestOneBoxTooMany(t *testing.T) {
	l := page([4]int{})
	for len(l) < api.MaxBoxes {
		l = append(l, block(1, 0))
	}
	g, at, e := layout.Layout(script.Encode(l))
	if len(g.Boxes) != api.MaxBoxes || at != -1 || e != api.OK {
		t.Error(len(g.Boxes), at, e)
	}
	refuses(t, script.Encode(append(l, block(1, 0))), -1, api.ErrMany)
	l[1].Kind = 0
	refuses(t, script.Encode(append(l, block(1, 0))), -1, api.ErrMany)
	refuses(t, script.Encode(l), 1, api.ErrKind)
}

// P19.2: no numbers are no boxes, of which Build says that there is none.
func TestNoNumbers(t *testing.T) {
	refuses(t, nil, -1, api.ErrNone)
	refuses(t, []int{}, -1, api.ErrNone)
}

// P19.2: boxes that may not be by themselves, at each place: Build's place and error.
func TestWrongBoxes(t *testing.T) {
	may := page([4]int{}, block(1, 5), float(1, api.Left, 5, 5), text(1), atom(2, 1, 1))
	for _, x := range []struct {
		e     api.Errno
		wrong func(b *api.Box)
	}{
		{api.ErrKind, func(b *api.Box) { b.Kind = 0 }},
		{api.ErrKind, func(b *api.Box) { b.Kind = 6 }},
		{api.ErrBig, func(b *api.Box) { b.Width = api.MaxSize + 1 }},
		{api.ErrBig, func(b *api.Box) { b.Edges[3] = math.MinInt }},
		{api.ErrSide, func(b *api.Box) { b.Side = api.Both }},
		{api.ErrClear, func(b *api.Box) { b.Clear = 4 }},
		{api.ErrSize, func(b *api.Box) { b.Height = -2 }},
		{api.ErrEdge, func(b *api.Box) { b.Edges[0] = -1 }},
		{api.ErrDepth, func(b *api.Box) { b.Depth = -1 }},
		{api.ErrDepth, func(b *api.Box) { b.Depth = api.MaxDepth + 1 }},
	} {
		for at := range may {
			l := page([4]int{}, may[1:]...)
			l[0] = may[0]
			x.wrong(&l[at])
			refuses(t, script.Encode(l), at, x.e)
		}
	}
	may[4].Margins[1] = 1
	refuses(t, script.Encode(may), 4, api.ErrMargin)
}

// P19.2: boxes that can't stand where they would: the place of the first one, and ErrNest.
func TestBoxesThatDontFit(t *testing.T) {
	for _, x := range []struct {
		at int
		l  []api.Box
	}{
		{0, []api.Box{block(0, 5)}},
		{0, []api.Box{{Kind: api.Root, Width: api.Auto, Height: 5}}},
		{0, []api.Box{{Depth: 1, Kind: api.Root, Width: 5, Height: 5}}},
		{0, []api.Box{{Kind: api.Root, Width: 5, Height: 5, Clear: api.Left}}},
		{1, page([4]int{}, root(0, 5))},
		{1, page([4]int{}, block(2, 5))},
		{1, page([4]int{}, atom(1, 5, 5), atom(1, 5, 5))},
		{3, page([4]int{}, text(1), atom(2, 1, 1), block(2, 5))},
		{3, page([4]int{}, text(1), atom(2, 1, 1), float(3, api.Left, 5, 5))},
		{3, page([4]int{}, block(1, 5), block(2, 5), block(4, 5), block(0, 5))},
	} {
		refuses(t, script.Encode(x.l), x.at, api.ErrNest)
	}
}

// P4, and the tenth example of the whole: any numbers are laid, or refused just as Decode and Build do; with an error there
// is nothing.
func TestAnyNumbers(t *testing.T) {
	laid, refused := 0, map[api.Errno]int{}
	for seed := range 20000 {
		c := chosen(seed)
		numbers := script.Encode(c.list(1 + c.to(8)))
		for range c.to(3) {
			numbers[c.to(len(numbers))] = c.to(9) - 2
		}
		if c.to(4) == 0 {
			numbers = numbers[:c.to(len(numbers)+1)]
		}
		e := answersAsItShould(t, numbers)
		if e == api.OK {
			laid++
		} else {
			refused[e]++
		}
	}
	for _, e := range []api.Errno{
		api.ErrShort, api.ErrKind, api.ErrSide, api.ErrClear, api.ErrSize, api.ErrMargin, api.ErrEdge, api.ErrDepth, api.ErrNest,
	} {
		if refused[e] < 50 {
			t.Error(refused)
		}
	}
	if laid < 3000 {
		t.Error(laid)
	}
}
