package shelf_test

import (
	"slices"
	"testing"

	"runaround/api"
	"runaround/rect"
	"runaround/shelf"
)

// The floats of these tests lie in rows from first up to, and without, last.
const (
	first = -2
	last  = 14
)

// boundsOf gives the bounds of a row, as the chapter says: all floats are looked through anew.
func boundsOf(floats []float, y int) rect.Span {
	bounds := span(-far, far)
	for _, f := range floats {
		b := f.box
		if b.Left >= b.Right || y < b.Top || y >= b.Bottom {
			continue
		}
		if f.side == 1 && b.Right > bounds.From {
			bounds.From = b.Right
		}
		if f.side == 2 && b.Left < bounds.To {
			bounds.To = b.Left
		}
	}
	return bounds
}

// shelvesOf goes down row by row, and begins a shelf where a row's bounds aren't those of the one above.
func shelvesOf(floats []float) []shelf.Shelf {
	shelves, above := []shelf.Shelf{{Top: -far, Left: -far, Right: far}}, span(-far, far)
	for y := first; y <= last; y++ {
		if bounds := boundsOf(floats, y); bounds != above {
			shelves, above = append(shelves, shelf.Shelf{Top: y, Left: bounds.From, Right: bounds.To}), bounds
		}
	}
	return shelves
}

// wellFormed tells whether shelves begin at -Far, go down, have unlike neighbours, and end as free as can be.
func wellFormed(shelves []shelf.Shelf) bool {
	if len(shelves) == 0 || shelves[0].Top != -far {
		return false
	}
	for i := 1; i < len(shelves); i++ {
		above, s := shelves[i-1], shelves[i]
		if s.Top <= above.Top || s.Left == above.Left && s.Right == above.Right {
			return false
		}
	}
	end := shelves[len(shelves)-1]
	return end.Left == -far && end.Right == far
}

// boundsIn gives the bounds that shelves tell of a row: those of the last one that begins there, or above.
func boundsIn(shelves []shelf.Shelf, y int) rect.Span {
	var bounds rect.Span
	for _, s := range shelves {
		if s.Top <= y {
			bounds = span(s.Left, s.Right)
		}
	}
	return bounds
}

// toldAs tells it if a list's shelves aren't well formed, or say of a row other than what floats come to.
func toldAs(t *testing.T, l *shelf.List, floats []float) bool {
	t.Helper()
	got := l.Shelves()
	if !wellFormed(got) {
		t.Errorf("%v: %v", floats, got)
		return false
	}
	for _, y := range []int{-far, 1 - far, -most, first - 1, last + 1, most, far} {
		if boundsIn(got, y) != span(-far, far) {
			t.Errorf("%v: %v in row %d", floats, got, y)
			return false
		}
	}
	for y := first; y <= last; y++ {
		if want := boundsOf(floats, y); boundsIn(got, y) != want {
			t.Errorf("%v: %v, not %v in row %d", floats, got, want, y)
			return false
		}
	}
	if want := shelvesOf(floats); !slices.Equal(got, want) {
		t.Errorf("%v: %v, not %v", floats, got, want)
		return false
	}
	return true
}

// bandOf gives the greatest left and the least right bound of rows, one by one.
func bandOf(floats []float, rows rect.Span) rect.Span {
	all := span(-far, far)
	for y := rows.From; y < rows.To; y++ {
		bounds := boundsOf(floats, y)
		all = span(max(all.From, bounds.From), min(all.To, bounds.To))
	}
	return all
}

// bandsAs tells it if what a list says is free in rows, of all that there are here, isn't what floats leave.
func bandsAs(t *testing.T, l *shelf.List, floats []float) {
	t.Helper()
	for from := first - 1; from <= last+1; from++ {
		for to := first - 1; to <= last+1; to++ {
			if got, want := l.Band(span(from, to)), bandOf(floats, span(from, to)); got != want {
				t.Errorf("%v: %v from %d to %d, not %v", floats, got, from, to, want)
				return
			}
		}
		above, below := l.Band(span(-most, from)), l.Band(span(from, most+1))
		if above != bandOf(floats, span(first, from)) || below != bandOf(floats, span(from, last)) {
			t.Errorf("%v: %v above %d, %v below it", floats, above, from, below)
			return
		}
	}
}

// aftersAs tells it if a list's next Top, of each row that there is here, isn't the least one that is greater.
func aftersAs(t *testing.T, l *shelf.List, floats []float) {
	t.Helper()
	for y := first - 2; y <= last+2; y++ {
		want, found := 0, false
		for _, s := range shelvesOf(floats) {
			if s.Top > y && !found {
				want, found = s.Top, true
			}
		}
		if got, ok := l.After(y); got != want || ok != found {
			t.Errorf("%v: %d, %t after %d, not %d, %t", floats, got, ok, y, want, found)
			return
		}
	}
}

// few gives floats of both sides, in rows of a few, with edges of a few.
func few(rows, edges int) []float {
	var all []float
	for top := range rows {
		for bottom := top + 1; bottom <= rows; bottom++ {
			for edge := range edges {
				all = append(all, left(edge, top, bottom), right(edge, top, bottom))
			}
		}
	}
	return all
}

// P9.1 and P9.2: all pairs of floats of a few rows and edges.
func TestAllPairs(t *testing.T) {
	for _, a := range few(5, 3) {
		for _, b := range few(5, 3) {
			floats := []float{a, b}
			l := list(floats...)
			toldAs(t, l, floats)
			bandsAs(t, l, floats)
			aftersAs(t, l, floats)
		}
	}
}

// P9.1: all fours of floats of fewer rows and edges.
func TestAllFours(t *testing.T) {
	all := few(3, 2)
	for _, a := range all {
		for _, b := range all {
			for _, c := range all {
				for _, d := range all {
					floats := []float{a, b, c, d}
					if got, want := list(floats...).Shelves(), shelvesOf(floats); !slices.Equal(got, want) {
						t.Fatalf("%v: %v, not %v", floats, got, want)
					}
				}
			}
		}
	}
}

// chosen gives numbers by a rule of its own.
type chosen uint64

// to gives one from 0 to n, without n.
func (c *chosen) to(n int) int {
	*c = *c*6364136223846793005 + 1442695040888963407
	return int(*c>>34) % n
}

// next gives a float of some side, or of none, which may be full or not.
func (c *chosen) next() float {
	top, edge := first+c.to(last-first), c.to(30)-9
	box := api.Rect{Left: edge, Top: top, Right: edge + 1 + c.to(7), Bottom: min(top+1+c.to(6), last)}
	switch c.to(12) {
	case 0:
		box.Left, box.Right = box.Right, box.Left
	case 1:
		box.Top, box.Bottom = box.Bottom, box.Top
	case 2:
		box.Right = box.Left
	case 3:
		box.Bottom = box.Top
	}
	side := 1 + c.to(2)
	if c.to(10) == 0 {
		side = c.to(7) - 2
	}
	return float{side, box}
}

// P9.1 and P9.2: floats one after the other, of all kinds; each time all is told as it is then.
func TestOneAfterTheOther(t *testing.T) {
	for seed := range 150 {
		c := chosen(seed)
		l := shelf.New()
		var floats []float
		for range 2 + seed%24 {
			f := c.next()
			floats = append(floats, f)
			l.Add(f.side, f.box)
			if !toldAs(t, l, floats) {
				return
			}
		}
		bandsAs(t, l, floats)
		aftersAs(t, l, floats)
	}
}

// The floats that the test above puts are of either side, and of neither, full, and not full.
func TestChosenAreOfAllKinds(t *testing.T) {
	full, other, sides := 0, 0, map[int]int{}
	for seed := range 150 {
		c := chosen(seed)
		for range 2 + seed%24 {
			f := c.next()
			sides[f.side]++
			if rect.Full(f.box) {
				full++
			} else {
				other++
			}
		}
	}
	if full < 500 || other < 100 || sides[1] < 500 || sides[2] < 500 || sides[0] == 0 || sides[3] == 0 || sides[-2] == 0 || sides[4] == 0 {
		t.Error(full, other, sides)
	}
}

// K5: an answer that is changed, or made longer, changes no later answer.
func TestAnswersAreNew(t *testing.T) {
	floats := []float{left(3, 0, 4), right(8, 2, 6), left(5, 8, 9)}
	for n := range len(floats) + 1 {
		l := list(floats[:n]...)
		kept := l.Shelves()
		for range 2 {
			shelves := l.Shelves()
			for i := range shelves[:cap(shelves)] {
				shelves[:cap(shelves)][i] = shelf.Shelf{Top: 1, Left: 2, Right: 3}
			}
			toldAs(t, l, floats[:n])
			bandsAs(t, l, floats[:n])
			aftersAs(t, l, floats[:n])
		}
		l.Add(api.Left, api.Rect{Left: 0, Top: -1, Right: 9, Bottom: 12})
		l.Add(api.Right, api.Rect{Left: 0, Top: 1, Right: 9, Bottom: 3})
		if want := shelvesOf(floats[:n]); !slices.Equal(kept, want) {
			t.Error(kept, want)
		}
	}
}

// K6: two lists have nothing to do with each other.
func TestListsStandApart(t *testing.T) {
	c := chosen(7)
	var lists [3]*shelf.List
	var floats [3][]float
	for i := range lists {
		lists[i] = shelf.New()
	}
	for range 30 {
		i, f := c.to(len(lists)), c.next()
		lists[i].Add(f.side, f.box)
		floats[i] = append(floats[i], f)
		for j, l := range lists {
			toldAs(t, l, floats[j])
		}
	}
	for i, l := range lists {
		if len(floats[i]) == 0 {
			t.Error(i)
		}
		bandsAs(t, l, floats[i])
		aftersAs(t, l, floats[i])
	}
	if l := shelf.New(); !slices.Equal(l.Shelves(), shelvesOf(nil)) {
		t.Error(l.Shelves())
	}
}

// K6: asking changes nothing, of whatever rows one asks.
func TestAskingChangesNothing(t *testing.T) {
	floats := []float{left(3, 0, 4), right(8, 2, 6), left(5, 8, 9), right(6, 8, 13)}
	l := list(floats...)
	for y := first - 1; y <= last+1; y++ {
		for to := first - 1; to <= last+1; to++ {
			l.Band(span(y, to))
			l.After(to)
		}
		l.Shelves()
		toldAs(t, l, floats)
	}
	bandsAs(t, l, floats)
	aftersAs(t, l, floats)
	more := append(slices.Clone(floats), left(9, 3, 5))
	l.Add(more[4].side, more[4].box)
	toldAs(t, l, more)
}
