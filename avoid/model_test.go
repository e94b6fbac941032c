package avoid_test

import (
	"slices"
	"testing"

	"runaround/api"
	"runaround/avoid"
	"runaround/rect"
	"runaround/space"
)

// boundsOf gives the bounds of rows, of each one anew, as layer 9 says.
func boundsOf(floats []space.Float, y, rows int) (int, int) {
	from, to := -1<<52, 1<<52
	for row := y; row < y+rows; row++ {
		for _, f := range floats {
			b := f.Box
			if b.Left >= b.Right || row < b.Top || row >= b.Bottom {
				continue
			}
			if f.Side == 1 {
				from = max(from, b.Right)
			} else {
				to = min(to, b.Left)
			}
		}
	}
	return from, to
}

// atOf tells where a want would stand at a height, if it may, in the chapter's words.
func atOf(floats []space.Float, w avoid.Want, y int) (int, bool) {
	from, to := boundsOf(floats, y, max(1, w.Height))
	a, b := max(w.Room.From, from), min(w.Room.To, to)
	long := w.Room.To - w.Room.From
	fits := w.Width <= b-a
	wider := (w.Width > long || long < 0) && from <= w.Room.From && to >= w.Room.From+w.Width
	if fits || wider {
		return a, true
	}
	return 0, false
}

// findOf goes down from a want's From, row by row.
func findOf(floats []space.Float, w avoid.Want) api.Rect {
	for y := w.From; ; y++ {
		if x, ok := atOf(floats, w, y); ok {
			return box(x, y, x+w.Width, y+w.Height)
		}
	}
}

// agrees tells it if a want is dealt with otherwise than the chapter says, in a space of these floats, or if asking
// changes it.
func agrees(t *testing.T, floats []space.Float, w avoid.Want, ys rect.Span) {
	t.Helper()
	s := of(floats...)
	shelves := s.Shelves()
	for y := ys.From; y < ys.To; y++ {
		if x, ok := atOf(floats, w, y); ok {
			stands(t, s, w, y, x)
		} else {
			standsNot(t, s, w, y)
		}
	}
	finds(t, s, w, findOf(floats, w))
	if !slices.Equal(s.Floats(), floats) || !slices.Equal(s.Shelves(), shelves) {
		t.Errorf("%v, asked of %+v: %v, %v", floats, w, s.Floats(), s.Shelves())
	}
}

// few gives floats of both sides, in rows of a few, with edges of a few; some of them aren't full.
func few() []space.Float {
	var all []space.Float
	for top := range 3 {
		for _, height := range []int{-1, 1, 2} {
			for _, edge := range []int{-1, 1, 3} {
				all = append(all, left(edge-1, edge, top, top+height), right(edge, edge+1, top, top+height))
			}
		}
	}
	return all
}

// fewWants gives wants of a few rooms, which end behind, at, and ahead of where they begin, and of a few sizes.
func fewWants() []avoid.Want {
	var all []avoid.Want
	for _, to := range []int{-1, 0, 2} {
		for width := range 4 {
			for _, height := range []int{-1, 1, 2} {
				all = append(all, want(0, to, width, height, height/2))
			}
		}
	}
	return all
}

// P12.1 and P12.2: all pairs of a few floats, which may stand over each other, and a few wants.
func TestAllPairs(t *testing.T) {
	for _, a := range few() {
		for _, b := range few() {
			for _, w := range fewWants() {
				agrees(t, []space.Float{a, b}, w, rect.Span{From: -2, To: 6})
			}
			if t.Failed() {
				return
			}
		}
	}
}

// chosen gives numbers by a rule of its own.
type chosen uint64

// to gives one from 0 to n, without n.
func (c *chosen) to(n int) int {
	*c = *c*6364136223846793005 + 1442695040888963407
	return int(*c>>34) % n
}

// float gives a float that stands anywhere, and may be full or not; most left ones are at the left, most right ones
// at the right.
func (c *chosen) float() space.Float {
	side := 1 + c.to(2)
	x, y := c.to(12)-8, c.to(30)-4
	if side == api.Right {
		x += 12
	}
	return space.Float{Side: side, Box: box(x, y, x+c.to(9)-1, y+c.to(5)-1)}
}

// floats gives up to so many.
func (c *chosen) floats(n int) []space.Float {
	var all []space.Float
	for range c.to(n + 1) {
		all = append(all, c.float())
	}
	return all
}

// want gives a want of any kind, in a room that lies anywhere.
func (c *chosen) want() avoid.Want {
	from := c.to(12) - 4
	return want(from, from+c.to(24)-6, c.to(14), c.to(16)-3, c.to(34)-8)
}

// P12.1 and P12.2: floats anywhere, and wants of all kinds among them.
func TestAmongFloatsAnywhere(t *testing.T) {
	for seed := range 600 {
		c := chosen(seed)
		floats := c.floats(30)
		for range 12 {
			agrees(t, floats, c.want(), rect.Span{From: -8, To: 34})
		}
		if t.Failed() {
			return
		}
	}
}

// The wants that the test above asks for are found at From, below it, and below all; with floats that begin above From
// and below it; wider than their rooms, of no length or less, beside floats, and held off by lower rows alone.
func TestChosenAreOfAllKinds(t *testing.T) {
	at, below, last, among, wider, short, beside, deep := 0, 0, 0, 0, 0, 0, 0, 0
	count := func(n *int, so bool) {
		if so {
			*n++
		}
	}
	for seed := range 600 {
		c := chosen(seed)
		floats := c.floats(30)
		s := of(floats...)
		for range 12 {
			w := c.want()
			got := findOf(floats, w)
			count(&at, got.Top == w.From)
			after, ok := s.After(got.Top)
			count(&below, got.Top > w.From && ok && after > got.Top)
			count(&last, got.Top > w.From && !ok)
			above := slices.ContainsFunc(floats, func(f space.Float) bool { return f.Box.Top < w.From })
			under := slices.ContainsFunc(floats, func(f space.Float) bool { return f.Box.Top > w.From })
			count(&among, above && under)
			count(&wider, w.Width > w.Room.Len() && w.Room.Len() > 0)
			count(&short, w.Room.Len() <= 0)
			count(&beside, got.Left > w.Room.From)
			row := w
			row.Height = 1
			_, high := atOf(floats, w, w.From)
			_, low := atOf(floats, row, w.From)
			count(&deep, low && !high)
		}
	}
	if at < 1000 || below < 1000 || last < 500 || among < 1000 || wider < 500 || short < 500 || beside < 300 || deep < 500 {
		t.Error(at, below, last, among, wider, short, beside, deep)
	}
}

// P12.2: high boxes among many low floats, of which each leaves other columns free.
func TestHighOnesAmongManyLowFloats(t *testing.T) {
	for seed := range 60 {
		c := chosen(seed)
		var floats []space.Float
		for y := range 80 {
			from, to := c.to(8), 20-c.to(8)
			floats = append(floats, left(0, from, y, y+1+c.to(2)), right(to, 20, y, y+1+c.to(2)))
		}
		s := of(floats...)
		for range 20 {
			w := want(c.to(4), 20-c.to(4), 6+c.to(13), c.to(30), c.to(80))
			finds(t, s, w, findOf(floats, w))
		}
		if t.Failed() {
			return
		}
	}
}

// K6: spaces have nothing to do with each other, and an answer hangs on no earlier one.
func TestSpacesStandApart(t *testing.T) {
	c := chosen(5)
	spaces := []*space.Space{space.New(), space.New(), space.New()}
	floats := make([][]space.Float, len(spaces))
	for range 60 {
		i, f := c.to(len(spaces)), c.float()
		spaces[i].Put(f.Side, f.Box)
		floats[i] = append(floats[i], f)
		w := c.want()
		for j, s := range spaces {
			finds(t, s, w, findOf(floats[j], w))
			if x, ok := atOf(floats[j], w, w.From); ok {
				stands(t, s, w, w.From, x)
			} else {
				standsNot(t, s, w, w.From)
			}
			if !slices.Equal(s.Floats(), floats[j]) {
				t.Errorf("%v, not %v", s.Floats(), floats[j])
			}
		}
	}
	for i := range spaces {
		if len(floats[i]) < 5 {
			t.Error(i, floats[i])
		}
	}
}

// P12.2: as many floats as there may be boxes, one below the other, and high boxes beside them: room in each other
// row; nowhere; in all rows up to the last one; and less and less of it at the left, and more and more at the right.
func TestAsManyAsBoxes(t *testing.T) {
	const n = api.MaxBoxes
	each, none, last, stairs := space.New(), space.New(), space.New(), space.New()
	for y := range n {
		each.Put(api.Left, box(0, y, 5+3*(y%2), y+1))
		none.Put(api.Left, box(0, y, 8+y%2, y+1))
		last.Put(api.Left, box(0, y, 3+y%2, y+1))
		if y < n/2 {
			stairs.Put(api.Left, box(0, y, n-y, y+1))
			stairs.Put(api.Right, box(2*n-y, y, 4*n, y+1))
		}
	}
	last.Put(api.Left, box(0, n-1, 9, n))
	for _, height := range []int{2, 300, n, most} {
		for _, s := range []*space.Space{each, none, last} {
			top := n
			if s == last && height < n {
				top = 7
			}
			if got := avoid.Find(s, want(0, 10, 5, height, 7)); got.Top != top || got.Bottom != top+height {
				t.Error(height, got, top)
			}
		}
		// from its top row's left bound, n - top, to its last row's right one, 2n - bottom + 1, there is n + 1 less
		// its rows, as long as these aren't below the stairs
		rows := min(height, n/2)
		if got := avoid.Find(stairs, want(0, 4*n, n+1-rows, height, 0)); got != box(n, 0, 2*n+1-rows, height) {
			t.Error(height, got)
		}
		if got := avoid.Find(stairs, want(0, 4*n, n+2-rows, height, 0)); got.Top != n/2+1-rows {
			t.Error(height, got)
		}
	}
}
