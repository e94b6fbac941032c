package shelf_test

import (
	"math"
	"slices"
	"testing"

	"runaround/api"
	"runaround/rect"
	"runaround/shelf"
)

// far is farther than anything. most is the greatest number of a float, -most the least one.
const (
	far  = 1 << 52
	most = 1<<51 - 1
)

// float is a float that stands at a side.
type float struct {
	side int
	box  api.Rect
}

// left gives a left float up to a right edge, in some rows.
func left(edge, top, bottom int) float {
	return float{api.Left, api.Rect{Left: edge - 4, Top: top, Right: edge, Bottom: bottom}}
}

// right gives a right float from a left edge on, in some rows.
func right(edge, top, bottom int) float {
	return float{api.Right, api.Rect{Left: edge, Top: top, Right: edge + 4, Bottom: bottom}}
}

// list gives the list of floats, put into it in order.
func list(floats ...float) *shelf.List {
	l := shelf.New()
	for _, f := range floats {
		l.Add(f.side, f.box)
	}
	return l
}

// span gives a span.
func span(from, to int) rect.Span { return rect.Span{From: from, To: to} }

// free is the shelf of all rows where nothing floats.
func free() shelf.Shelf { return shelf.Shelf{Top: -far, Left: -far, Right: far} }

// has tells it if a list's shelves aren't these: the first one, which is free, and then those that are named.
func has(t *testing.T, l *shelf.List, below ...shelf.Shelf) {
	t.Helper()
	if got, want := l.Shelves(), append([]shelf.Shelf{free()}, below...); !slices.Equal(got, want) {
		t.Errorf("%v, not %v", got, want)
	}
}

// band tells it if what is free in some rows isn't this.
func band(t *testing.T, l *shelf.List, rows, want rect.Span) {
	t.Helper()
	if got := l.Band(rows); got != want {
		t.Errorf("%v: %v, not %v", rows, got, want)
	}
}

// after tells it if the next Top below a y isn't this.
func after(t *testing.T, l *shelf.List, y, want int) {
	t.Helper()
	if got, ok := l.After(y); got != want || !ok {
		t.Errorf("%d: %d, %t, not %d", y, got, ok, want)
	}
}

// noneAfter tells it if there is a Top below a y.
func noneAfter(t *testing.T, l *shelf.List, y int) {
	t.Helper()
	if got, ok := l.After(y); got != 0 || ok {
		t.Errorf("%d: %d, %t", y, got, ok)
	}
}

// P9.1: Far is what the chapter says.
func TestFar(t *testing.T) {
	if shelf.Far != 4503599627370496 {
		t.Error(shelf.Far)
	}
}

// P9.1: a new list has one shelf, as free as can be.
func TestNew(t *testing.T) {
	l := shelf.New()
	has(t, l)
	for _, rows := range []rect.Span{span(0, 1), span(-most, most), span(-most, most+1), span(7, 7), span(7, 2)} {
		band(t, l, rows, span(-far, far))
	}
	after(t, l, -far-1, -far)
	after(t, l, math.MinInt, -far)
	for _, y := range []int{-far, -far + 1, -most, 0, most, far, math.MaxInt} {
		noneAfter(t, l, y)
	}
}

// P9.1: the chapter's example.
func TestExample(t *testing.T) {
	l := list(float{api.Left, api.Rect{Left: 0, Top: 2, Right: 3, Bottom: 5}})
	has(t, l, shelf.Shelf{Top: 2, Left: 3, Right: far}, shelf.Shelf{Top: 5, Left: -far, Right: far})
}

// P9.1: of a left float the right edge counts, of a right one the left edge.
func TestSides(t *testing.T) {
	box := api.Rect{Left: -7, Top: 2, Right: 11, Bottom: 5}
	below := shelf.Shelf{Top: 5, Left: -far, Right: far}
	has(t, list(float{api.Left, box}), shelf.Shelf{Top: 2, Left: 11, Right: far}, below)
	has(t, list(float{api.Right, box}), shelf.Shelf{Top: 2, Left: -far, Right: -7}, below)
}

// P9.1: of no other side a float changes anything.
func TestNeitherSide(t *testing.T) {
	for _, side := range []int{api.None, api.Both, -1, -2, 4, 5, math.MinInt, math.MaxInt} {
		box := api.Rect{Left: 0, Top: 2, Right: 3, Bottom: 5}
		has(t, list(float{side, box}))
		l := list(left(1, 0, 4), float{side, box})
		has(t, l, shelf.Shelf{Top: 0, Left: 1, Right: far}, shelf.Shelf{Top: 4, Left: -far, Right: far})
	}
}

// notFull gives rectangles without a point.
func notFull() []api.Rect {
	return []api.Rect{
		{},
		{Left: 5, Top: 2, Right: 5, Bottom: 6},
		{Left: 5, Top: 2, Right: 9, Bottom: 2},
		{Left: 5, Top: 2, Right: 5, Bottom: 2},
		{Left: 9, Top: 2, Right: 5, Bottom: 6},
		{Left: 5, Top: 6, Right: 9, Bottom: 2},
		{Left: 9, Top: 6, Right: 5, Bottom: 2},
		{Left: 6, Top: 2, Right: 5, Bottom: 3},
		{Left: 5, Top: 3, Right: 6, Bottom: 2},
		{Left: most, Top: -most, Right: -most, Bottom: most},
		{Left: -most, Top: most, Right: most, Bottom: -most},
	}
}

// P9.1: floats that aren't full change nothing, of either side.
func TestNotFull(t *testing.T) {
	for _, box := range notFull() {
		for _, side := range []int{api.Left, api.Right} {
			has(t, list(float{side, box}))
			has(t, list(left(3, 1, 4), right(8, 3, 7), float{side, box}),
				shelf.Shelf{Top: 1, Left: 3, Right: far}, shelf.Shelf{Top: 3, Left: 3, Right: 8},
				shelf.Shelf{Top: 4, Left: -far, Right: 8}, shelf.Shelf{Top: 7, Left: -far, Right: far})
		}
	}
}

// P9.1: the least float that counts has one point.
func TestOnePoint(t *testing.T) {
	box := api.Rect{Left: 5, Top: 2, Right: 6, Bottom: 3}
	below := shelf.Shelf{Top: 3, Left: -far, Right: far}
	has(t, list(float{api.Left, box}), shelf.Shelf{Top: 2, Left: 6, Right: far}, below)
	has(t, list(float{api.Right, box}), shelf.Shelf{Top: 2, Left: -far, Right: 5}, below)
}

// P9.1: floats one below the other, that touch, or leave rows free between them.
func TestOneBelowTheOther(t *testing.T) {
	has(t, list(left(3, 0, 4), left(5, 4, 6)),
		shelf.Shelf{Top: 0, Left: 3, Right: far}, shelf.Shelf{Top: 4, Left: 5, Right: far}, shelf.Shelf{Top: 6, Left: -far, Right: far})
	has(t, list(left(3, 0, 4), right(5, 4, 6)),
		shelf.Shelf{Top: 0, Left: 3, Right: far}, shelf.Shelf{Top: 4, Left: -far, Right: 5}, shelf.Shelf{Top: 6, Left: -far, Right: far})
	has(t, list(left(3, 0, 4), left(5, 5, 6)),
		shelf.Shelf{Top: 0, Left: 3, Right: far}, shelf.Shelf{Top: 4, Left: -far, Right: far},
		shelf.Shelf{Top: 5, Left: 5, Right: far}, shelf.Shelf{Top: 6, Left: -far, Right: far})
	has(t, list(right(3, 0, 4), left(-5, 9, 12)),
		shelf.Shelf{Top: 0, Left: -far, Right: 3}, shelf.Shelf{Top: 4, Left: -far, Right: far},
		shelf.Shelf{Top: 9, Left: -5, Right: far}, shelf.Shelf{Top: 12, Left: -far, Right: far})
}

// P9.1: floats that have some rows in common, of one side.
func TestSameRowsOfOneSide(t *testing.T) {
	has(t, list(left(3, 0, 4), left(5, 2, 6)),
		shelf.Shelf{Top: 0, Left: 3, Right: far}, shelf.Shelf{Top: 2, Left: 5, Right: far}, shelf.Shelf{Top: 6, Left: -far, Right: far})
	has(t, list(left(5, 0, 4), left(3, 2, 6)),
		shelf.Shelf{Top: 0, Left: 5, Right: far}, shelf.Shelf{Top: 4, Left: 3, Right: far}, shelf.Shelf{Top: 6, Left: -far, Right: far})
	has(t, list(right(3, 0, 4), right(5, 2, 6)),
		shelf.Shelf{Top: 0, Left: -far, Right: 3}, shelf.Shelf{Top: 4, Left: -far, Right: 5}, shelf.Shelf{Top: 6, Left: -far, Right: far})
	has(t, list(right(5, 0, 4), right(3, 2, 6)),
		shelf.Shelf{Top: 0, Left: -far, Right: 5}, shelf.Shelf{Top: 2, Left: -far, Right: 3}, shelf.Shelf{Top: 6, Left: -far, Right: far})
	has(t, list(left(3, 0, 9), left(5, 2, 6)),
		shelf.Shelf{Top: 0, Left: 3, Right: far}, shelf.Shelf{Top: 2, Left: 5, Right: far},
		shelf.Shelf{Top: 6, Left: 3, Right: far}, shelf.Shelf{Top: 9, Left: -far, Right: far})
	has(t, list(right(5, 0, 9), right(3, 2, 6)),
		shelf.Shelf{Top: 0, Left: -far, Right: 5}, shelf.Shelf{Top: 2, Left: -far, Right: 3},
		shelf.Shelf{Top: 6, Left: -far, Right: 5}, shelf.Shelf{Top: 9, Left: -far, Right: far})
}

// P9.1: floats that have some rows in common, of both sides.
func TestSameRowsOfBothSides(t *testing.T) {
	for _, floats := range [][]float{{left(3, 0, 4), right(8, 2, 6)}, {right(8, 2, 6), left(3, 0, 4)}} {
		has(t, list(floats...),
			shelf.Shelf{Top: 0, Left: 3, Right: far}, shelf.Shelf{Top: 2, Left: 3, Right: 8},
			shelf.Shelf{Top: 4, Left: -far, Right: 8}, shelf.Shelf{Top: 6, Left: -far, Right: far})
	}
	has(t, list(left(3, 0, 9), right(8, 2, 6)),
		shelf.Shelf{Top: 0, Left: 3, Right: far}, shelf.Shelf{Top: 2, Left: 3, Right: 8},
		shelf.Shelf{Top: 6, Left: 3, Right: far}, shelf.Shelf{Top: 9, Left: -far, Right: far})
	has(t, list(left(3, 2, 6), right(8, 2, 6)), shelf.Shelf{Top: 2, Left: 3, Right: 8}, shelf.Shelf{Top: 6, Left: -far, Right: far})
}

// P9.1: a float behind a farther one changes nothing; one that reaches as far neither.
func TestBehindAFartherOne(t *testing.T) {
	below := shelf.Shelf{Top: 9, Left: -far, Right: far}
	for _, rows := range []rect.Span{span(2, 9), span(3, 9), span(2, 8), span(4, 5)} {
		for _, short := range []int{0, 1, 6} {
			has(t, list(left(7, 2, 9), left(7-short, rows.From, rows.To)), shelf.Shelf{Top: 2, Left: 7, Right: far}, below)
			has(t, list(right(7, 2, 9), right(7+short, rows.From, rows.To)), shelf.Shelf{Top: 2, Left: -far, Right: 7}, below)
			has(t, list(left(7-short, rows.From, rows.To), left(7, 2, 9)), shelf.Shelf{Top: 2, Left: 7, Right: far}, below)
			has(t, list(right(7+short, rows.From, rows.To), right(7, 2, 9)), shelf.Shelf{Top: 2, Left: -far, Right: 7}, below)
		}
	}
}

// P9.1: floats that reach over to the other side's, and beyond: bounds are told as they are.
func TestReachesOver(t *testing.T) {
	for _, edge := range []int{7, 8, 9, 50} {
		want := []shelf.Shelf{{Top: 0, Left: edge, Right: far}, {Top: 2, Left: edge, Right: 8}, {Top: 4, Left: -far, Right: 8}, {Top: 6, Left: -far, Right: far}}
		has(t, list(left(edge, 0, 4), right(8, 2, 6)), want...)
		has(t, list(right(8, 2, 6), left(edge, 0, 4)), want...)
	}
	for _, edge := range []int{9, 8, 7, -50} {
		want := []shelf.Shelf{{Top: 0, Left: 8, Right: far}, {Top: 2, Left: 8, Right: edge}, {Top: 4, Left: -far, Right: edge}, {Top: 6, Left: -far, Right: far}}
		has(t, list(right(edge, 2, 6), left(8, 0, 4)), want...)
	}
	band(t, list(left(50, 0, 4), right(8, 2, 6)), span(0, 9), span(50, 8))
	band(t, list(left(50, 0, 2), right(8, 4, 6)), span(0, 9), span(50, 8))
}

// P9.1: neighbours that come to have the same bounds are one shelf then.
func TestNeighboursBecomeOne(t *testing.T) {
	one := []shelf.Shelf{{Top: 0, Left: 3, Right: far}, {Top: 9, Left: -far, Right: far}}
	has(t, list(left(3, 0, 4), left(3, 4, 9)), one...)
	has(t, list(left(3, 4, 9), left(3, 0, 4)), one...)
	has(t, list(left(3, 0, 2), left(3, 5, 9), left(3, 2, 5)), one...)
	has(t, list(left(1, 0, 4), left(2, 4, 6), left(1, 6, 9), left(3, 0, 9)), one...)
	has(t, list(left(1, 0, 4), left(2, 5, 6), left(1, 8, 9), left(3, 0, 9)), one...)
	has(t, list(left(3, 0, 4), left(2, 4, 9), left(3, 4, 9)), one...)
	has(t, list(left(2, 0, 4), left(3, 4, 9), left(3, 0, 4)), one...)
	both := []shelf.Shelf{{Top: 0, Left: 3, Right: 8}, {Top: 9, Left: -far, Right: far}}
	has(t, list(left(3, 0, 9), right(8, 0, 3), right(8, 3, 9)), both...)
	has(t, list(right(8, 0, 9), right(9, 2, 7), left(3, 0, 5), left(3, 4, 9)), both...)
}

// P9.1: one and the same float twice is as good as once.
func TestTwice(t *testing.T) {
	for _, f := range []float{left(3, 2, 5), right(3, 2, 5), left(3, 2, 3), right(-most, -most, most-4)} {
		once := list(f).Shelves()
		has(t, list(f, f), once[1:]...)
		has(t, list(f, f, f), once[1:]...)
	}
}

// orders gives floats in all their orders.
func orders(floats []float) [][]float {
	if len(floats) == 0 {
		return [][]float{nil}
	}
	var all [][]float
	for i := range floats {
		for _, others := range orders(slices.Delete(slices.Clone(floats), i, i+1)) {
			all = append(all, append(others, floats[i]))
		}
	}
	return all
}

// P9.1: shelves don't hang on the order in which floats come.
func TestAnyOrder(t *testing.T) {
	floats := []float{left(3, 0, 4), left(5, 2, 6), right(8, 3, 9), right(9, 1, 11), left(3, 9, 11), left(1, 4, 10)}
	all := orders(floats)
	if len(all) != 720 {
		t.Fatal(len(all))
	}
	for _, order := range all {
		has(t, list(order...),
			shelf.Shelf{Top: 0, Left: 3, Right: far}, shelf.Shelf{Top: 1, Left: 3, Right: 9}, shelf.Shelf{Top: 2, Left: 5, Right: 9},
			shelf.Shelf{Top: 3, Left: 5, Right: 8}, shelf.Shelf{Top: 6, Left: 1, Right: 8}, shelf.Shelf{Top: 9, Left: 3, Right: 9},
			shelf.Shelf{Top: 11, Left: -far, Right: far})
	}
}

// P9.1: the greatest and the least numbers that floats have.
func TestFarNumbers(t *testing.T) {
	all := api.Rect{Left: -most, Top: -most, Right: most, Bottom: most}
	has(t, list(float{api.Left, all}), shelf.Shelf{Top: -most, Left: most, Right: far}, shelf.Shelf{Top: most, Left: -far, Right: far})
	has(t, list(float{api.Right, all}), shelf.Shelf{Top: -most, Left: -far, Right: -most}, shelf.Shelf{Top: most, Left: -far, Right: far})
	has(t, list(float{api.Left, all}, float{api.Right, all}), shelf.Shelf{Top: -most, Left: most, Right: -most}, shelf.Shelf{Top: most, Left: -far, Right: far})
	first := api.Rect{Left: -most, Top: -most, Right: 1 - most, Bottom: 1 - most}
	last := api.Rect{Left: most - 1, Top: most - 1, Right: most, Bottom: most}
	l := list(float{api.Right, last}, float{api.Left, first})
	has(t, l, shelf.Shelf{Top: -most, Left: 1 - most, Right: far}, shelf.Shelf{Top: 1 - most, Left: -far, Right: far},
		shelf.Shelf{Top: most - 1, Left: -far, Right: most - 1}, shelf.Shelf{Top: most, Left: -far, Right: far})
	band(t, l, span(-most, most), span(1-most, most-1))
	band(t, l, span(-most, most+1), span(1-most, most-1))
	band(t, l, span(-most, most-1), span(1-most, far))
	band(t, l, span(1-most, most), span(-far, most-1))
	band(t, l, span(1-most, most-1), span(-far, far))
	band(t, l, span(most, most+1), span(-far, far))
	after(t, l, -most-1, -most)
	after(t, l, -most, 1-most)
	after(t, l, 1-most, most-1)
	after(t, l, most-1, most)
	noneAfter(t, l, most)
}

// P9.2: Band of rows above all floats, within one shelf, over some, and of rows that aren't any.
func TestBand(t *testing.T) {
	l := list(left(3, 2, 5), right(8, 4, 7), left(6, 9, 10), right(5, 12, 20))
	for _, c := range []struct{ rows, want rect.Span }{
		{span(-9, 2), span(-far, far)}, {span(1, 2), span(-far, far)}, {span(-most, 2), span(-far, far)},
		{span(1, 3), span(3, far)}, {span(2, 3), span(3, far)}, {span(2, 4), span(3, far)}, {span(3, 4), span(3, far)},
		{span(4, 5), span(3, 8)}, {span(3, 5), span(3, 8)}, {span(4, 6), span(3, 8)}, {span(2, 7), span(3, 8)},
		{span(5, 6), span(-far, 8)}, {span(6, 7), span(-far, 8)}, {span(5, 9), span(-far, 8)}, {span(6, 10), span(6, 8)},
		{span(7, 9), span(-far, far)}, {span(7, 8), span(-far, far)}, {span(10, 12), span(-far, far)},
		{span(4, 13), span(6, 5)}, {span(9, 13), span(6, 5)}, {span(10, 13), span(-far, 5)}, {span(19, 20), span(-far, 5)},
		{span(15, 16), span(-far, 5)}, {span(19, 99), span(-far, 5)}, {span(20, 21), span(-far, far)}, {span(20, most), span(-far, far)},
		{span(99, most+1), span(-far, far)}, {span(-most, most+1), span(6, 5)}, {span(-most, 3), span(3, far)}, {span(9, most), span(6, 5)},
	} {
		band(t, l, c.rows, c.want)
	}
}

// P9.2: rows beyond those of any float leave all free, and add nothing to others.
func TestBandOfRowsBeyondAll(t *testing.T) {
	l := list(left(3, 2, 5), right(8, 4, 7))
	band(t, l, span(math.MinInt, math.MaxInt), span(3, 8))
	band(t, l, span(math.MinInt, 3), span(3, far))
	band(t, l, span(5, math.MaxInt), span(-far, 8))
	for _, y := range []int{math.MinInt, -far - 1, -far, -most - 1, most + 1, far, math.MaxInt - 1} {
		band(t, l, span(y, y+1), span(-far, far))
	}
}

// P9.2: where there are no rows, all is free.
func TestBandOfNoRows(t *testing.T) {
	l := list(left(3, 2, 5), right(8, 4, 7))
	for _, rows := range []rect.Span{
		span(2, 2), span(3, 3), span(4, 4), span(5, 5), span(3, 2), span(5, 2), span(7, 2), span(4, 3), span(7, 0), span(9, -9),
		span(-9, -9), span(50, 50), span(most, -most), span(-most, -most), span(most, most), span(most, 4), span(4, -most), {},
	} {
		band(t, l, rows, span(-far, far))
	}
}

// P9.2: After of a y below, at, and above each Top.
func TestAfter(t *testing.T) {
	l := list(left(3, 2, 5), right(8, 4, 7), left(6, 9, 10))
	tops := []int{-far, 2, 4, 5, 7, 9, 10}
	for i, top := range tops {
		after(t, l, top-1, top)
		if i == len(tops)-1 {
			break
		}
		after(t, l, top, tops[i+1])
		if top+1 < tops[i+1] {
			after(t, l, top+1, tops[i+1])
		}
	}
	for _, y := range []int{10, 11, 99, most, far, math.MaxInt} {
		noneAfter(t, l, y)
	}
	after(t, l, math.MinInt, -far)
	after(t, l, -most, 2)
	after(t, l, 0, 2)
}

// P9.2: what no longer begins a shelf isn't found; nor is what never did.
func TestAfterOfShelvesThatAreOne(t *testing.T) {
	l := list(left(3, 2, 5), left(3, 5, 8), left(1, 3, 6), right(4, 6, 6))
	after(t, l, 1, 2)
	for y := 2; y < 8; y++ {
		after(t, l, y, 8)
	}
	noneAfter(t, l, 8)
}

// P9.1: as many floats as there may be boxes, one below the other.
func TestManyFloats(t *testing.T) {
	l := shelf.New()
	for y := range api.MaxBoxes {
		l.Add(api.Left, api.Rect{Left: -1, Top: y, Right: y % 3, Bottom: y + 1})
	}
	shelves := l.Shelves()
	if len(shelves) != api.MaxBoxes+2 {
		t.Fatal(len(shelves))
	}
	for y := range api.MaxBoxes {
		if want := (shelf.Shelf{Top: y, Left: y % 3, Right: far}); shelves[y+1] != want {
			t.Fatal(shelves[y+1], want)
		}
	}
	band(t, l, span(0, 1), span(0, far))
	band(t, l, span(0, 2), span(1, far))
	band(t, l, span(-5, api.MaxBoxes), span(2, far))
	after(t, l, 40000, 40001)
	l.Add(api.Left, api.Rect{Left: -1, Top: 0, Right: 9, Bottom: api.MaxBoxes})
	has(t, l, shelf.Shelf{Top: 0, Left: 9, Right: far}, shelf.Shelf{Top: api.MaxBoxes, Left: -far, Right: far})
}
