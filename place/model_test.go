package place_test

import (
	"slices"
	"testing"

	"runaround/api"
	"runaround/place"
	"runaround/rect"
	"runaround/space"
)

// boundsOf gives the bounds of rows, of each one anew, as layer 9 says.
func boundsOf(floats []space.Float, y, rows int) (int, int) {
	from, to := -1<<52, 1<<52
	for row := y; row < y+rows; row++ {
		for _, f := range floats {
			b := f.Box
			if b.Left >= b.Right || row < b.Top || row >= b.Bottom {
				continue
			}
			if f.Side == 1 {
				from = max(from, b.Right)
			} else {
				to = min(to, b.Left)
			}
		}
	}
	return from, to
}

// atOf tells where a want would stand at a height, if it may, in the chapter's words.
func atOf(floats []space.Float, w place.Want, y int) (int, bool) {
	from, to := boundsOf(floats, y, max(1, w.Height))
	a, b := max(w.Columns.From, from), min(w.Columns.To, to)
	room := w.Width <= b-a
	wider := w.Width > w.Columns.To-w.Columns.From
	if w.Side == 1 && (room || wider && a == w.Columns.From && w.Columns.From+w.Width <= to) {
		return a, true
	}
	if w.Side == 2 && (room || wider && b == w.Columns.To && w.Columns.To-w.Width >= from) {
		return b - w.Width, true
	}
	return 0, false
}

// startOf tells where a want starts, in the chapter's words.
func startOf(floats []space.Float, w place.Want) int {
	y := w.From
	for _, f := range floats {
		y = max(y, f.Box.Top)
		if w.Clear == 3 || w.Clear == f.Side {
			y = max(y, f.Box.Bottom)
		}
	}
	return y
}

// findOf goes down from a want's start, row by row.
func findOf(floats []space.Float, w place.Want) api.Rect {
	for y := startOf(floats, w); ; y++ {
		if x, ok := atOf(floats, w, y); ok {
			return box(x, y, x+w.Width, y+w.Height)
		}
	}
}

// agrees tells it if a want is dealt with otherwise than the chapter says, in a space of these floats, or if asking
// changes it.
func agrees(t *testing.T, floats []space.Float, w place.Want, ys rect.Span) {
	t.Helper()
	s := of(floats...)
	shelves := s.Shelves()
	for y := ys.From; y < ys.To; y++ {
		if x, ok := atOf(floats, w, y); ok {
			stands(t, s, w, y, x)
		} else {
			standsNot(t, s, w, y)
		}
	}
	starts(t, s, w, startOf(floats, w))
	finds(t, s, w, findOf(floats, w))
	if !slices.Equal(s.Floats(), floats) || !slices.Equal(s.Shelves(), shelves) {
		t.Errorf("%v, asked of %+v: %v, %v", floats, w, s.Floats(), s.Shelves())
	}
}

// few gives floats of both sides, in rows of a few, with edges of a few; some of them aren't full.
func few() []space.Float {
	var all []space.Float
	for top := range 2 {
		for _, height := range []int{-1, 1, 3} {
			for _, edge := range []int{-1, 1, 3} {
				all = append(all, left(edge-1, edge, top, top+height), right(edge, edge+1, top, top+height))
			}
		}
	}
	return all
}

// fewWants gives wants of both sides, of each Clear and of a few sizes.
func fewWants() []place.Want {
	var all []place.Want
	for clear := api.None; clear <= api.Both; clear++ {
		for _, width := range []int{-1, 0, 1, 2, 3} {
			for _, height := range []int{0, 1, 2} {
				w, r := wants(0, 2, width, height, 1)
				w.Clear, r.Clear = clear, clear
				all = append(all, w, r)
			}
		}
	}
	return all
}

// P11.1 and P11.2: all pairs of a few floats, which may stand over each other, and a few wants.
func TestAllPairs(t *testing.T) {
	for _, a := range few() {
		for _, b := range few() {
			for _, w := range fewWants() {
				agrees(t, []space.Float{a, b}, w, rect.Span{From: -2, To: 7})
			}
			if t.Failed() {
				return
			}
		}
	}
}

// chosen gives numbers by a rule of its own.
type chosen uint64

// to gives one from 0 to n, without n.
func (c *chosen) to(n int) int {
	*c = *c*6364136223846793005 + 1442695040888963407
	return int(*c>>34) % n
}

// float gives a float that stands anywhere, and may be full or not.
func (c *chosen) float() space.Float {
	x, y := c.to(24)-4, c.to(16)-4
	return space.Float{Side: 1 + c.to(2), Box: box(x, y, x+c.to(9)-1, y+c.to(9)-2)}
}

// want gives a want of any kind, in columns that lie anywhere.
func (c *chosen) want() place.Want {
	from := c.to(4) - 2
	return place.Want{
		Side:    1 + c.to(2),
		Clear:   max(0, c.to(12)-8),
		Columns: rect.Span{From: from, To: from + max(0, c.to(20)-4)},
		Width:   c.to(9) - 1,
		Height:  c.to(9) - 2,
		From:    c.to(14) - 6,
	}
}

// P11.1 and P11.2: floats anywhere, and wants of all kinds among them.
func TestAmongFloatsAnywhere(t *testing.T) {
	for seed := range 400 {
		c := chosen(seed)
		var floats []space.Float
		for range seed % 12 {
			floats = append(floats, c.float())
		}
		for range 12 {
			agrees(t, floats, c.want(), rect.Span{From: -8, To: 24})
		}
		if t.Failed() {
			return
		}
	}
}

// keeps tells it if a float that was put breaks what the document says of all floats of a context: P5.
func keeps(t *testing.T, ahead []space.Float, w place.Want, got api.Rect) {
	t.Helper()
	if got.Right-got.Left != w.Width || got.Bottom-got.Top != w.Height || got.Top < w.From {
		t.Errorf("%v: %+v put at %v", ahead, w, got)
	}
	if w.Side == 1 && got.Left < w.Columns.From || w.Side == 2 && got.Right > w.Columns.To {
		t.Errorf("%v: %+v put over its own side, at %v", ahead, w, got)
	}
	for _, f := range ahead {
		if rect.Meet(f.Box, got) {
			t.Errorf("%v: %+v put at %v, which meets %v", ahead, w, got, f)
		}
		if got.Top < f.Box.Top || (w.Clear == 3 || w.Clear == f.Side) && got.Top < f.Box.Bottom {
			t.Errorf("%v: %+v put at %v, too high for %v", ahead, w, got, f)
		}
	}
}

// P11.2: wants that are put one behind the other, in columns that lie anywhere: each where Find has it, of its Side,
// behind all that were put ahead of it; P5 of all of them.
func TestPutOneBehindTheOther(t *testing.T) {
	for seed := range 300 {
		c := chosen(seed)
		s := space.New()
		var floats []space.Float
		for range 1 + seed%25 {
			w := c.want()
			agrees(t, floats, w, rect.Span{From: w.From, To: w.From + 3})
			found := place.Find(s, w)
			got := place.Put(s, w)
			if got != found {
				t.Errorf("%v: %+v found at %v, put at %v", floats, w, found, got)
			}
			keeps(t, floats, w, got)
			floats = append(floats, space.Float{Side: w.Side, Box: got})
			if !slices.Equal(s.Floats(), floats) {
				t.Errorf("%v, not %v", s.Floats(), floats)
			}
		}
		if t.Failed() {
			return
		}
	}
}

// The wants that the test above puts stand beside each other, below each other, at their start, and wider than columns.
func TestChosenAreOfAllKinds(t *testing.T) {
	lower, wider, beside, full := 0, 0, 0, 0
	for seed := range 300 {
		c := chosen(seed)
		s := space.New()
		for range 1 + seed%25 {
			w := c.want()
			y := place.Start(s, w)
			got := place.Put(s, w)
			if got.Top > y {
				lower++
			}
			if w.Width > w.Columns.Len() {
				wider++
			}
			if got.Left != w.Columns.From && got.Right != w.Columns.To {
				beside++
			}
			if rect.Full(got) {
				full++
			}
		}
	}
	if lower < 500 || wider < 500 || beside < 200 || full < 1500 {
		t.Error(lower, wider, beside, full)
	}
}

// K6: spaces have nothing to do with each other, and what is asked of one changes nothing, whatever is put between.
func TestSpacesStandApart(t *testing.T) {
	c := chosen(5)
	spaces := []*space.Space{space.New(), space.New(), space.New()}
	floats := make([][]space.Float, len(spaces))
	for range 60 {
		i, w := c.to(len(spaces)), c.want()
		for j, s := range spaces {
			place.Start(s, w)
			place.At(s, w, w.From)
			starts(t, s, w, startOf(floats[j], w))
			finds(t, s, w, findOf(floats[j], w))
		}
		floats[i] = append(floats[i], space.Float{Side: w.Side, Box: place.Put(spaces[i], w)})
		for j, s := range spaces {
			if !slices.Equal(s.Floats(), floats[j]) {
				t.Errorf("%v, not %v", s.Floats(), floats[j])
			}
		}
	}
	for i := range spaces {
		if len(floats[i]) < 5 {
			t.Error(i, floats[i])
		}
	}
}

// P11.2: stairs of floats, one beside the other, each less high; then high ones, which find room only steps below.
func TestManyFloats(t *testing.T) {
	const steps = 8000
	s := space.New()
	for i := range steps {
		w, _ := wants(0, steps, 1, steps-i, 0)
		if got := place.Put(s, w); got != box(i, 0, i+1, steps-i) {
			t.Fatal(i, got)
		}
	}
	if n := len(s.Shelves()); n != steps+2 {
		t.Fatal(n)
	}
	w, r := wants(0, steps, steps, most, 0)
	finds(t, s, w, box(0, steps, steps, steps+most))
	finds(t, s, r, box(0, steps, steps, steps+most))
	w, r = wants(0, steps, steps/2, most, 0)
	finds(t, s, w, box(steps/2, steps/2, steps, steps/2+most))
	finds(t, s, r, box(steps/2, steps/2, steps, steps/2+most))
	w, r = wants(0, steps, steps+1, 1, -most)
	finds(t, s, w, box(0, steps, steps+1, steps+1))
	finds(t, s, r, box(-1, steps, steps, steps+1))
}

// P11.2: as many floats as there may be boxes, in rows as many as it takes.
func TestAsManyAsBoxes(t *testing.T) {
	s := space.New()
	for i := range api.MaxBoxes {
		w, r := wants(0, 10, 3, 2, 0)
		if i%3 == 2 {
			w = r
		}
		got := place.Put(s, w)
		y := i / 3 * 2
		if want := []api.Rect{box(0, y, 3, y+2), box(3, y, 6, y+2), box(7, y, 10, y+2)}[i%3]; got != want {
			t.Fatal(i, got, want)
		}
	}
	if l := s.Floats(); len(l) != api.MaxBoxes {
		t.Error(len(l))
	}
	w, _ := wants(0, 10, most, 1, 0)
	finds(t, s, w, box(0, 43692, most, 43693))
}
