package space_test

import (
	"slices"
	"testing"

	"runaround/api"
	"runaround/rect"
	"runaround/space"
)

// The floats of these tests lie in rows from high up to, and without, low.
const (
	high = -4
	low  = 12
)

// rowOf gives the bounds of a row, as layer 9 says: all floats are looked through anew.
func rowOf(floats []space.Float, y int) rect.Span {
	row := span(-far, far)
	for _, f := range floats {
		b := f.Box
		if b.Left >= b.Right || y < b.Top || y >= b.Bottom {
			continue
		}
		if f.Side == 1 && b.Right > row.From {
			row.From = b.Right
		}
		if f.Side == 2 && b.Left < row.To {
			row.To = b.Left
		}
	}
	return row
}

// boundsOf gives the greatest left and the least right bound of rows, one by one.
func boundsOf(floats []space.Float, rows rect.Span) rect.Span {
	all := span(-far, far)
	for y := rows.From; y < rows.To; y++ {
		row := rowOf(floats, y)
		all = span(max(all.From, row.From), min(all.To, row.To))
	}
	return all
}

// topsOf gives the Tops of shelves: where a row's bounds aren't those of the row above.
func topsOf(floats []space.Float) []int {
	tops := []int{-far}
	for y := high; y <= low; y++ {
		if rowOf(floats, y) != rowOf(floats, y-1) {
			tops = append(tops, y)
		}
	}
	return tops
}

// lastOf gives the greatest Top, if there is any.
func lastOf(floats []space.Float) (int, bool) {
	var tops []int
	for _, f := range floats {
		tops = append(tops, f.Box.Top)
	}
	return greatest(tops)
}

// bottomOf gives the greatest Bottom of what is cleared, if there is any.
func bottomOf(floats []space.Float, clear int) (int, bool) {
	var bottoms []int
	for _, f := range floats {
		if clear == 3 || f.Side == clear {
			bottoms = append(bottoms, f.Box.Bottom)
		}
	}
	return greatest(bottoms)
}

func greatest(l []int) (int, bool) {
	if len(l) == 0 {
		return 0, false
	}
	return slices.Max(l), true
}

// keeps tells it if a space says other of its floats, their tops and bottoms, than the chapter does.
func keeps(t *testing.T, s *space.Space, floats []space.Float) {
	t.Helper()
	has(t, s, floats...)
	want, some := lastOf(floats)
	if got, ok := s.Last(); got != want || ok != some {
		t.Errorf("%v: last %d, %t, not %d, %t", floats, got, ok, want, some)
	}
	for _, clear := range clears() {
		want, some := bottomOf(floats, clear)
		if some {
			bottom(t, s, clear, want)
		} else {
			noBottom(t, s, clear)
		}
	}
}

// leaves tells it if a space says other of what is free than the chapter does.
func leaves(t *testing.T, s *space.Space, floats []space.Float) {
	t.Helper()
	for y := high - 1; y <= low+1; y++ {
		for _, height := range []int{-3, 0, 1, 2, 3, 7, low - high} {
			rows := space.Rows(y, height)
			want := boundsOf(floats, span(y, y+max(1, height)))
			bounds(t, s, rows, want)
			for _, columns := range []rect.Span{span(0, 10), span(-3, 4), span(8, 5), span(-most, most)} {
				free := span(max(columns.From, want.From), min(columns.To, want.To))
				if got := s.Free(columns, rows); got != free {
					t.Errorf("%v: free of %v in %v: %v, not %v", floats, columns, rows, got, free)
				}
			}
		}
	}
}

// asks gives what First asks, the last of which it answers.
func asks(tops []int, y int, so func(y int) bool) []int {
	asked := []int{y}
	if so(y) {
		return asked
	}
	for _, top := range tops {
		if top <= y {
			continue
		}
		asked = append(asked, top)
		if so(top) {
			return asked
		}
	}
	return asked
}

// seeks tells it if First answers, or asks, other than the chapter says.
func seeks(t *testing.T, s *space.Space, floats []space.Float) {
	t.Helper()
	tops := topsOf(floats)
	for y := high - 2; y <= low+2; y++ {
		for at := y - 1; at <= low+2; at++ {
			for _, so := range []func(y int) bool{from(at), just(at)} {
				want := asks(tops, y, so)
				first(t, s, y, so, want[len(want)-1], want...)
			}
		}
		for _, height := range []int{0, 1, 3} {
			so := long(s, span(0, 10), height, 7)
			want := asks(tops, y, so)
			first(t, s, y, so, want[len(want)-1], want...)
		}
	}
}

// few gives floats of both sides, in rows of a few, with edges of a few; some of them aren't full.
func few(rows, edges int) []space.Float {
	var all []space.Float
	for top := range rows {
		for bottom := range rows + 1 {
			for edge := range edges {
				all = append(all, left(edge, top, bottom), right(edge, top, bottom))
			}
		}
	}
	return all
}

// P10.1, P10.2 and P10.3: all pairs of floats of a few rows and edges.
func TestAllPairs(t *testing.T) {
	for _, a := range few(3, 2) {
		for _, b := range few(3, 2) {
			floats := []space.Float{a, b}
			s := of(floats...)
			keeps(t, s, floats)
			leaves(t, s, floats)
			seeks(t, s, floats)
		}
	}
}

// chosen gives numbers by a rule of its own.
type chosen uint64

// to gives one from 0 to n, without n.
func (c *chosen) to(n int) int {
	*c = *c*6364136223846793005 + 1442695040888963407
	return int(*c>>34) % n
}

// next gives a float of some side, which may be full or not.
func (c *chosen) next() space.Float {
	top, edge := high+c.to(low-high), c.to(30)-9
	box := api.Rect{Left: edge, Top: top, Right: edge + 1 + c.to(7), Bottom: min(top+1+c.to(6), low)}
	switch c.to(12) {
	case 0:
		box.Left, box.Right = box.Right, box.Left
	case 1:
		box.Top, box.Bottom = box.Bottom, box.Top
	case 2:
		box.Right = box.Left
	case 3:
		box.Bottom = box.Top
	}
	return space.Float{Side: 1 + c.to(2), Box: box}
}

// P10.1, P10.2 and P10.3: floats one after the other, of all kinds; each time all is told as it is then.
func TestOneAfterTheOther(t *testing.T) {
	for seed := range 60 {
		c := chosen(seed)
		s := space.New()
		var floats []space.Float
		for range 1 + seed%20 {
			f := c.next()
			floats = append(floats, f)
			s.Put(f.Side, f.Box)
			keeps(t, s, floats)
		}
		leaves(t, s, floats)
		seeks(t, s, floats)
		if t.Failed() {
			return
		}
	}
}

// The floats that the test above puts are of either side, full, and not full, with Bottoms above their Tops, too.
func TestChosenAreOfAllKinds(t *testing.T) {
	full, flat, below, sides := 0, 0, 0, map[int]int{}
	for seed := range 60 {
		c := chosen(seed)
		for range 1 + seed%20 {
			f := c.next()
			sides[f.Side]++
			switch {
			case rect.Full(f.Box):
				full++
			case f.Box.Bottom < f.Box.Top:
				below++
			default:
				flat++
			}
		}
	}
	if full < 200 || flat < 50 || below < 20 || sides[1] < 100 || sides[2] < 100 || len(sides) != 2 {
		t.Error(full, flat, below, sides)
	}
}

// K5: floats that are changed, or made longer, change no later answer; and no later float changes those.
func TestAnswersAreNew(t *testing.T) {
	floats := []space.Float{left(3, 0, 4), right(8, 2, 6), left(5, 8, 9), left(2, 7, 3)}
	for n := range len(floats) + 1 {
		s := of(floats[:n]...)
		kept := s.Floats()
		for range 2 {
			got := s.Floats()
			for i := range got[:cap(got)] {
				got[:cap(got)][i] = left(1, 1, 2)
			}
			if more := append(s.Floats(), right(4, 0, 11)); len(more) != n+1 {
				t.Error(more)
			}
			keeps(t, s, floats[:n])
			leaves(t, s, floats[:n])
			seeks(t, s, floats[:n])
		}
		s.Put(api.Left, api.Rect{Left: 0, Top: -1, Right: 9, Bottom: 11})
		s.Put(api.Right, api.Rect{Left: 0, Top: 1, Right: 9, Bottom: 3})
		if !slices.Equal(kept, floats[:n]) {
			t.Error(kept, floats[:n])
		}
	}
}

// K6: spaces have nothing to do with each other.
func TestSpacesStandApart(t *testing.T) {
	c := chosen(7)
	var spaces [3]*space.Space
	var floats [3][]space.Float
	for i := range spaces {
		spaces[i] = space.New()
	}
	for range 30 {
		i, f := c.to(len(spaces)), c.next()
		spaces[i].Put(f.Side, f.Box)
		floats[i] = append(floats[i], f)
		for j, s := range spaces {
			keeps(t, s, floats[j])
		}
	}
	for i, s := range spaces {
		if len(floats[i]) == 0 {
			t.Error(i)
		}
		leaves(t, s, floats[i])
		seeks(t, s, floats[i])
	}
	keeps(t, space.New(), nil)
}

// K6: asking changes nothing.
func TestAskingChangesNothing(t *testing.T) {
	floats := []space.Float{left(3, 0, 4), right(8, 2, 6), left(5, 8, 9), right(6, 8, 11), left(2, 7, 3)}
	s := of(floats...)
	for range 2 {
		keeps(t, s, floats)
		leaves(t, s, floats)
		seeks(t, s, floats)
	}
	more := append(slices.Clone(floats), left(9, 3, 10))
	s.Put(api.Left, more[len(floats)].Box)
	keeps(t, s, more)
	leaves(t, s, more)
	seeks(t, s, more)
}

// P10.1 to P10.3: as many floats as there may be boxes, one below the other.
func TestManyFloats(t *testing.T) {
	s := space.New()
	for y := range api.MaxBoxes {
		s.Put(api.Left, api.Rect{Left: -1, Top: y, Right: y % 3, Bottom: y + 1})
	}
	if l := s.Floats(); len(l) != api.MaxBoxes || l[40000].Box.Top != 40000 {
		t.Fatal(len(l))
	}
	last(t, s, api.MaxBoxes-1)
	bottom(t, s, api.Left, api.MaxBoxes)
	bounds(t, s, span(0, api.MaxBoxes), span(2, far))
	calls := 0
	at := s.First(-1, func(y int) bool {
		calls++
		return s.Bounds(space.Rows(y, 1)) == span(-far, far) && y >= 0
	})
	if at != api.MaxBoxes || calls != api.MaxBoxes+2 {
		t.Error(at, calls)
	}
}
