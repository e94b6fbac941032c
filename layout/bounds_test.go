package layout_test

import (
	"math"
	"slices"
	"testing"

	"runaround/api"
	"runaround/layout"
)

// linesOf gives lines that have these boxes.
func linesOf(boxes ...api.Rect) []layout.Line {
	var l []layout.Line
	for i, b := range boxes {
		l = append(l, lineOf(i-1, b, -i, i))
	}
	return l
}

// bounded tells it if a geometry's bounds aren't so, with its boxes and lines in this order or the other one, or as
// boxes where they are lines.
func bounded(t *testing.T, boxes, lines []api.Rect, want api.Rect, ok bool) {
	t.Helper()
	turned, back := slices.Clone(boxes), slices.Clone(lines)
	slices.Reverse(turned)
	slices.Reverse(back)
	for _, g := range []layout.Geometry{
		{Boxes: boxes, Lines: linesOf(lines...)},
		{Boxes: turned, Lines: linesOf(back...)},
		{Boxes: lines, Lines: linesOf(boxes...)},
		{Boxes: slices.Concat(lines, boxes)},
		{Lines: linesOf(slices.Concat(turned, lines)...)},
	} {
		if got, gotOK := g.Bounds(); got != want || gotOK != ok {
			t.Errorf("%v: %v, %v, not %v, %v", g, got, gotOK, want, ok)
		}
	}
}

// P19.3: of nothing there are no bounds.
func TestBoundsOfNothing(t *testing.T) {
	bounded(t, nil, nil, api.Rect{}, false)
	bounded(t, []api.Rect{}, []api.Rect{}, api.Rect{}, false)
}

// hollow gives rectangles without points, of all sorts.
func hollow() []api.Rect {
	return []api.Rect{
		{}, box(5, 5, 5, 9), box(5, 5, 9, 5), box(-7, -7, -7, -7), box(9, 0, 3, 4), box(0, 9, 4, 3), box(9, 9, 3, 3),
		box(math.MaxInt, math.MaxInt, math.MinInt, math.MinInt), box(math.MinInt, 0, math.MaxInt, 0),
	}
}

// P19.3: of boxes and lines without points there are none.
func TestBoundsWithoutPoints(t *testing.T) {
	for _, b := range hollow() {
		bounded(t, []api.Rect{b}, nil, api.Rect{}, false)
		bounded(t, []api.Rect{b}, hollow(), api.Rect{}, false)
	}
}

// P19.3: of one box, or one line, that has points, it is that, whatever else there is without any.
func TestBoundsOfOne(t *testing.T) {
	for _, b := range []api.Rect{
		box(0, 0, 1, 1), box(3, 4, 9, 7), box(-9, -7, -3, -4), box(-1, -1, 1, 1), box(-5, 2, 0, 3),
		box(-1<<60, -1<<60, 1<<60, 1<<60), box(math.MinInt, math.MinInt, math.MaxInt, math.MaxInt),
	} {
		bounded(t, []api.Rect{b}, nil, b, true)
		bounded(t, []api.Rect{b, b}, []api.Rect{b}, b, true)
		bounded(t, append(hollow(), b), hollow(), b, true)
	}
}

// P19.3: of some, it is the least one that has all points: each end by itself, lines out beyond all boxes, numbers below 0.
func TestBoundsOfSome(t *testing.T) {
	middle := box(2, 3, 8, 9)
	for _, x := range []struct{ other, want api.Rect }{
		{middle, middle},
		{box(4, 5, 6, 7), middle},
		{box(1, 5, 6, 7), box(1, 3, 8, 9)},
		{box(4, 1, 6, 7), box(2, 1, 8, 9)},
		{box(4, 5, 10, 7), box(2, 3, 10, 9)},
		{box(4, 5, 6, 10), box(2, 3, 8, 10)},
		{box(0, 0, 10, 10), box(0, 0, 10, 10)},
		{box(-5, -4, -3, -2), box(-5, -4, 8, 9)},
		{box(20, 30, 21, 31), box(2, 3, 21, 31)},
		{box(-20, 30, -19, 31), box(-20, 3, 8, 31)},
	} {
		bounded(t, []api.Rect{middle}, []api.Rect{x.other}, x.want, true)
		bounded(t, append(hollow(), middle), append(hollow(), x.other), x.want, true)
	}
	bounded(t, []api.Rect{box(-9, -9, -8, -8), box(-3, -20, -2, -19)}, []api.Rect{box(-7, -6, -5, -4)}, box(-9, -20, -2, -4), true)
}

// least gives the bounds of rectangles, end by end.
func least(l []api.Rect) (api.Rect, bool) {
	l = slices.DeleteFunc(slices.Clone(l), func(r api.Rect) bool { return r.Left >= r.Right || r.Top >= r.Bottom })
	if len(l) == 0 {
		return api.Rect{}, false
	}
	var lefts, tops, rights, bottoms []int
	for _, r := range l {
		lefts, tops, rights, bottoms = append(lefts, r.Left), append(tops, r.Top), append(rights, r.Right), append(bottoms, r.Bottom)
	}
	return box(slices.Min(lefts), slices.Min(tops), slices.Max(rights), slices.Max(bottoms)), true
}

// P19.3: of many.
func TestBoundsOfMany(t *testing.T) {
	none := 0
	for seed := range 3000 {
		c := chosen(seed)
		made := func() []api.Rect {
			var l []api.Rect
			for range c.to(5) {
				l = append(l, box(c.to(20)-10, c.to(20)-10, c.to(20)-10, c.to(20)-10))
			}
			return l
		}
		boxes, lines := made(), made()
		want, ok := least(slices.Concat(boxes, lines))
		bounded(t, boxes, lines, want, ok)
		if !ok {
			none++
		}
	}
	if none < 300 || none > 2000 {
		t.Error(none)
	}
}

// P19.3: of geometries that Of gives: those whose boxes reach out of the first one, and whose lines do.
func TestBoundsOfLaid(t *testing.T) {
	short := text(1)
	short.Height = 1
	wide := text(1)
	wide.Margins = sides(0, 0, 0, -4)
	low := []api.Box{short, atom(2, 30, 1), atom(2, 30, 8)}
	for _, x := range []struct {
		l      []api.Box
		height int
		want   api.Rect
		ok     bool
	}{
		{nil, api.Auto, api.Rect{}, false},
		{nil, 3, box(0, 0, 40, 3), true},
		{low, api.Auto, box(0, 0, 40, 9), true},
		{low, 0, box(0, 0, 40, 9), true},
		{[]api.Box{wide, atom(2, 50, 2)}, 0, box(-4, 0, 46, 2), true},
		{[]api.Box{block(1, 0), block(1, 0)}, 0, api.Rect{}, false},
		{[]api.Box{float(1, api.Right, 50, 2)}, 0, box(-10, 0, 40, 2), true},
	} {
		l := page([4]int{}, x.l...)
		l[0].Height = x.height
		g, e := layout.Of(built(t, l))
		if got, ok := g.Bounds(); got != x.want || ok != x.ok || e != api.OK {
			t.Errorf("%v: %v, %v, %v, not %v, %v", l, got, ok, e, x.want, x.ok)
		}
	}
}
