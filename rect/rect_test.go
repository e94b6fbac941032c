package rect_test

import (
	"math"
	"testing"

	"runaround/api"
	"runaround/rect"
)

// far is the greatest number that the chapter allows; -far is the least one.
const far = 1 << 60

// ends has both ends of what is allowed, and a few numbers between them.
var ends = []int{-far, 1 - far, -3, -1, 0, 1, 2, 4, far - 1, far}

func spans() []rect.Span {
	var all []rect.Span
	for _, from := range ends {
		for _, to := range ends {
			all = append(all, rect.Span{From: from, To: to})
		}
	}
	return all
}

// small has all rectangles within a few numbers: full ones, empty ones, some that touch, some within another.
func small() []api.Rect {
	var all []api.Rect
	for left := -1; left <= 2; left++ {
		for right := -1; right <= 2; right++ {
			for top := -1; top <= 2; top++ {
				for bottom := -1; bottom <= 2; bottom++ {
					all = append(all, api.Rect{Left: left, Top: top, Right: right, Bottom: bottom})
				}
			}
		}
	}
	return all
}

// has tells by the Words alone whether a point is in a rectangle.
func has(r api.Rect, x, y int) bool {
	return x >= r.Left && x < r.Right && y >= r.Top && y < r.Bottom
}

// anyPoint tells whether there is a point near 0 that all these rectangles have.
func anyPoint(all ...api.Rect) bool {
	for x := -3; x <= 4; x++ {
		for y := -3; y <= 4; y++ {
			in := true
			for _, r := range all {
				in = in && has(r, x, y)
			}
			if in {
				return true
			}
		}
	}
	return false
}

// P2.1: To less From, below 0 as well, from the one end to the other.
func TestLen(t *testing.T) {
	for _, x := range []struct{ from, to, want int }{
		{2, 5, 3}, {5, 4, -1}, {4, 4, 0}, {-3, -1, 2}, {-3, 4, 7}, {9, -9, -18}, {0, 1, 1},
		{-far, far, 1 << 61}, {far, -far, -1 << 61}, {far - 1, far, 1}, {-far, 1 - far, 1}, {far, far, 0},
	} {
		if got := (rect.Span{From: x.from, To: x.to}).Len(); got != x.want {
			t.Error(x, got)
		}
	}
}

// P2.1: half open; a span whose To isn't above From has nothing; any number may be asked of.
func TestHas(t *testing.T) {
	for _, x := range []struct {
		from, to, n int
		want        bool
	}{
		{2, 5, 1, false}, {2, 5, 2, true}, {2, 5, 3, true}, {2, 5, 4, true}, {2, 5, 5, false}, {2, 5, 6, false},
		{-5, -2, -5, true}, {-5, -2, -2, false}, {-1, 1, 0, true},
		{5, 5, 5, false}, {5, 5, 4, false}, {5, 4, 4, false}, {5, 4, 5, false}, {9, -9, 0, false}, {9, -9, 9, false}, {9, -9, -9, false},
		{-far, far, -far, true}, {-far, far, far - 1, true}, {-far, far, far, false}, {-far, far, -far - 1, false}, {-far, far, 0, true},
		{far, -far, 0, false}, {far, -far, far, false}, {far, -far, -far, false},
		{far, far, far, false}, {far - 1, far, far - 1, true}, {-far, 1 - far, -far, true},
		{-far, far, math.MaxInt, false}, {-far, far, math.MinInt, false},
		{far, -far, math.MaxInt, false}, {far, -far, math.MinInt, false},
		{0, 1, math.MaxInt, false}, {0, 1, math.MinInt, false},
		{0, far, math.MinInt + 1, false}, {-far, 0, math.MaxInt - 1, false},
	} {
		if got := (rect.Span{From: x.from, To: x.to}).Has(x.n); got != x.want {
			t.Error(x, got)
		}
	}
}

// P2.1: spans that touch, that overlap by one, that lie in each other, and those that have nothing.
func TestMeets(t *testing.T) {
	for _, x := range []struct {
		s, u rect.Span
		want bool
	}{
		{rect.Span{From: 0, To: 3}, rect.Span{From: 3, To: 6}, false},
		{rect.Span{From: 0, To: 4}, rect.Span{From: 3, To: 6}, true},
		{rect.Span{From: 0, To: 9}, rect.Span{From: 3, To: 6}, true},
		{rect.Span{From: 0, To: 9}, rect.Span{From: 0, To: 9}, true},
		{rect.Span{From: 0, To: 9}, rect.Span{From: 0, To: 1}, true},
		{rect.Span{From: 0, To: 9}, rect.Span{From: 8, To: 9}, true},
		{rect.Span{From: 0, To: 9}, rect.Span{From: 10, To: 12}, false},
		{rect.Span{From: 0, To: 9}, rect.Span{From: 4, To: 4}, false},
		{rect.Span{From: 0, To: 9}, rect.Span{From: 5, To: 4}, false},
		{rect.Span{From: 0, To: 9}, rect.Span{From: 20, To: -20}, false},
		{rect.Span{From: 0, To: 9}, rect.Span{From: 20, To: 3}, false},
		{rect.Span{From: 0, To: 9}, rect.Span{From: 3, To: -20}, false},
		{rect.Span{From: 0, To: 0}, rect.Span{From: 0, To: 0}, false},
		{rect.Span{From: 2, To: 0}, rect.Span{From: 3, To: 1}, false},
		{rect.Span{From: -far, To: far}, rect.Span{From: far - 1, To: far}, true},
		{rect.Span{From: -far, To: far}, rect.Span{From: -far, To: 1 - far}, true},
		{rect.Span{From: -far, To: far}, rect.Span{From: far, To: -far}, false},
		{rect.Span{From: -far, To: far}, rect.Span{From: far, To: far}, false},
		{rect.Span{From: -far, To: 0}, rect.Span{From: 0, To: far}, false},
		{rect.Span{From: -far, To: 1}, rect.Span{From: 0, To: far}, true},
	} {
		if x.s.Meets(x.u) != x.want || x.u.Meets(x.s) != x.want {
			t.Error(x)
		}
	}
}

// P2.1: the greater From and the lesser To, also of spans that have nothing; and what both have is what their Clip has.
func TestClip(t *testing.T) {
	for _, x := range []struct{ s, u, want rect.Span }{
		{rect.Span{From: 2, To: 5}, rect.Span{From: 4, To: 9}, rect.Span{From: 4, To: 5}},
		{rect.Span{From: 2, To: 5}, rect.Span{From: 5, To: 9}, rect.Span{From: 5, To: 5}},
		{rect.Span{From: 2, To: 5}, rect.Span{From: 7, To: 9}, rect.Span{From: 7, To: 5}},
		{rect.Span{From: 2, To: 9}, rect.Span{From: 4, To: 5}, rect.Span{From: 4, To: 5}},
		{rect.Span{From: 2, To: 9}, rect.Span{From: 2, To: 9}, rect.Span{From: 2, To: 9}},
		{rect.Span{From: 2, To: 9}, rect.Span{From: 5, To: 4}, rect.Span{From: 5, To: 4}},
		{rect.Span{From: 2, To: 9}, rect.Span{From: 30, To: -30}, rect.Span{From: 30, To: -30}},
		{rect.Span{From: 9, To: 2}, rect.Span{From: 5, To: 4}, rect.Span{From: 9, To: 2}},
		{rect.Span{From: -far, To: far}, rect.Span{From: -1, To: 1}, rect.Span{From: -1, To: 1}},
		{rect.Span{From: far, To: -far}, rect.Span{From: -1, To: 1}, rect.Span{From: far, To: -far}},
	} {
		if x.s.Clip(x.u) != x.want || x.u.Clip(x.s) != x.want {
			t.Error(x, x.s.Clip(x.u), x.u.Clip(x.s))
		}
	}
	for _, s := range spans() {
		for _, u := range spans() {
			clip := s.Clip(u)
			met := false
			for _, n := range ends {
				both := s.Has(n) && u.Has(n)
				met = met || both
				if clip.Has(n) != both {
					t.Error(s, u, clip, n)
				}
			}
			// Where both have a number at all, both have the greater From, which is one of ends.
			if s.Meets(u) != met {
				t.Error(s, u, met)
			}
		}
	}
}

// P2.1: a rectangle's spans, and the rectangle of two spans, the one as full or empty as the other.
func TestColumnsRowsAndOf(t *testing.T) {
	for _, r := range []api.Rect{
		{}, {Left: 1, Top: 2, Right: 3, Bottom: 4}, {Left: 4, Top: 3, Right: 2, Bottom: 1}, {Left: -9, Top: -8, Right: -7, Bottom: -6},
		{Left: -far, Top: 1 - far, Right: far, Bottom: far - 1}, {Left: far, Top: far - 1, Right: -far, Bottom: 1 - far},
	} {
		columns, rows := rect.Columns(r), rect.Rows(r)
		if columns != (rect.Span{From: r.Left, To: r.Right}) || rows != (rect.Span{From: r.Top, To: r.Bottom}) {
			t.Error(r, columns, rows)
		}
		if rect.Of(columns, rows) != r {
			t.Error(r, rect.Of(columns, rows))
		}
	}
	if r := rect.Of(rect.Span{From: 1, To: 2}, rect.Span{From: 3, To: 4}); r != (api.Rect{Left: 1, Top: 3, Right: 2, Bottom: 4}) {
		t.Error(r)
	}
}

// P2.2: a rectangle has a point just if both its spans have a number.
func TestFull(t *testing.T) {
	for _, x := range []struct {
		r    api.Rect
		want bool
	}{
		{api.Rect{}, false},
		{api.Rect{Right: 1, Bottom: 1}, true},
		{api.Rect{Right: 1}, false},
		{api.Rect{Bottom: 1}, false},
		{api.Rect{Left: 1, Top: 1}, false},
		{api.Rect{Left: 2, Top: 2, Right: -2, Bottom: -2}, false},
		{api.Rect{Left: 5, Right: 4, Bottom: 9}, false},
		{api.Rect{Right: 9, Top: 5, Bottom: 4}, false},
		{api.Rect{Left: -far, Top: -far, Right: far, Bottom: far}, true},
		{api.Rect{Left: far, Top: far, Right: -far, Bottom: -far}, false},
		{api.Rect{Left: far, Top: -far, Right: -far, Bottom: far}, false},
		{api.Rect{Left: far, Top: far, Right: far, Bottom: far}, false},
		{api.Rect{Left: far - 1, Top: -far, Right: far, Bottom: 1 - far}, true},
	} {
		if rect.Full(x.r) != x.want {
			t.Error(x)
		}
	}
	for _, r := range small() {
		if rect.Full(r) != anyPoint(r) {
			t.Error(r)
		}
	}
}

// P2.2: rectangles that touch at an edge or a corner, that overlap by one point, that lie in each other, and empty ones.
func TestMeet(t *testing.T) {
	r := api.Rect{Left: 0, Top: 0, Right: 4, Bottom: 3}
	for _, x := range []struct {
		s    api.Rect
		want bool
	}{
		{r, true},
		{api.Rect{Left: 4, Top: 0, Right: 9, Bottom: 3}, false},
		{api.Rect{Left: -4, Top: 0, Right: 0, Bottom: 3}, false},
		{api.Rect{Left: 0, Top: 3, Right: 4, Bottom: 9}, false},
		{api.Rect{Left: 0, Top: -9, Right: 4, Bottom: 0}, false},
		{api.Rect{Left: 4, Top: 3, Right: 9, Bottom: 9}, false},
		{api.Rect{Left: -9, Top: -9, Right: 0, Bottom: 0}, false},
		{api.Rect{Left: 3, Top: 2, Right: 9, Bottom: 9}, true},
		{api.Rect{Left: -9, Top: -9, Right: 1, Bottom: 1}, true},
		{api.Rect{Left: -9, Top: 2, Right: 1, Bottom: 9}, true},
		{api.Rect{Left: 3, Top: -9, Right: 9, Bottom: 1}, true},
		{api.Rect{Left: 1, Top: 1, Right: 2, Bottom: 2}, true},
		{api.Rect{Left: -9, Top: 1, Right: 9, Bottom: 2}, true},
		{api.Rect{Left: 1, Top: 1, Right: 1, Bottom: 2}, false},
		{api.Rect{Left: 1, Top: 1, Right: 2, Bottom: 1}, false},
		{api.Rect{Left: 2, Top: 1, Right: 1, Bottom: 2}, false},
		{api.Rect{Left: 90, Top: 1, Right: -90, Bottom: 2}, false},
		{api.Rect{Left: 1, Top: 90, Right: 2, Bottom: -90}, false},
		{api.Rect{Left: -far, Top: -far, Right: far, Bottom: far}, true},
		{api.Rect{Left: far, Top: far, Right: -far, Bottom: -far}, false},
		{api.Rect{Left: 4, Top: -far, Right: far, Bottom: far}, false},
		{api.Rect{Left: 3, Top: -far, Right: far, Bottom: far}, true},
		{api.Rect{Left: -far, Top: -far, Right: far, Bottom: 0}, false},
		{api.Rect{Left: -far, Top: -far, Right: far, Bottom: 1}, true},
	} {
		if rect.Meet(r, x.s) != x.want || rect.Meet(x.s, r) != x.want {
			t.Error(x)
		}
	}
	if rect.Meet(api.Rect{Right: 2, Bottom: 2}, api.Rect{Left: 2, Right: 4, Bottom: 2}) {
		t.Error("example 1")
	}
}

// P2.2: of all small rectangles, against the points themselves.
func TestMeetAndCommonByPoints(t *testing.T) {
	for _, a := range small() {
		for _, b := range small() {
			if rect.Meet(a, b) != anyPoint(a, b) {
				t.Fatal(a, b)
			}
			want := api.Rect{Left: max(a.Left, b.Left), Top: max(a.Top, b.Top), Right: min(a.Right, b.Right), Bottom: min(a.Bottom, b.Bottom)}
			if rect.Common(a, b) != want {
				t.Fatal(a, b, rect.Common(a, b))
			}
		}
	}
}

// P2.2: at both ends, and of rectangles that have nothing: the numbers stay those of the Clip.
func TestCommon(t *testing.T) {
	for _, x := range []struct{ a, b, want api.Rect }{
		{api.Rect{Left: 0, Top: 0, Right: 4, Bottom: 3}, api.Rect{Left: 2, Top: -1, Right: 9, Bottom: 1}, api.Rect{Left: 2, Top: 0, Right: 4, Bottom: 1}},
		{api.Rect{Left: 0, Top: 0, Right: 4, Bottom: 3}, api.Rect{Left: 6, Top: 5, Right: 9, Bottom: 9}, api.Rect{Left: 6, Top: 5, Right: 4, Bottom: 3}},
		{api.Rect{Left: 0, Top: 0, Right: 4, Bottom: 3}, api.Rect{Left: 1, Top: 1, Right: 2, Bottom: 2}, api.Rect{Left: 1, Top: 1, Right: 2, Bottom: 2}},
		{api.Rect{Left: -far, Top: -far, Right: far, Bottom: far}, api.Rect{Left: 1, Top: 2, Right: 3, Bottom: 4}, api.Rect{Left: 1, Top: 2, Right: 3, Bottom: 4}},
		{api.Rect{Left: far, Top: far, Right: -far, Bottom: -far}, api.Rect{Left: 1, Top: 2, Right: 3, Bottom: 4}, api.Rect{Left: far, Top: far, Right: -far, Bottom: -far}},
	} {
		if rect.Common(x.a, x.b) != x.want || rect.Common(x.b, x.a) != x.want {
			t.Error(x, rect.Common(x.a, x.b))
		}
	}
}

// P2.2: columns right, rows down, below 0 the other way, and back again.
func TestShift(t *testing.T) {
	for _, x := range []struct {
		r           api.Rect
		right, down int
		want        api.Rect
	}{
		{api.Rect{Left: 1, Top: 2, Right: 3, Bottom: 4}, 0, 0, api.Rect{Left: 1, Top: 2, Right: 3, Bottom: 4}},
		{api.Rect{Left: 1, Top: 2, Right: 3, Bottom: 4}, 10, 0, api.Rect{Left: 11, Top: 2, Right: 13, Bottom: 4}},
		{api.Rect{Left: 1, Top: 2, Right: 3, Bottom: 4}, 0, 10, api.Rect{Left: 1, Top: 12, Right: 3, Bottom: 14}},
		{api.Rect{Left: 1, Top: 2, Right: 3, Bottom: 4}, -10, -20, api.Rect{Left: -9, Top: -18, Right: -7, Bottom: -16}},
		{api.Rect{Left: 4, Top: 3, Right: 2, Bottom: 1}, 1, -1, api.Rect{Left: 5, Top: 2, Right: 3, Bottom: 0}},
		{api.Rect{Left: -far, Top: far, Right: far, Bottom: -far}, far, -far, api.Rect{Left: 0, Top: 0, Right: 2 * far, Bottom: -2 * far}},
		{api.Rect{Left: -far, Top: far, Right: far, Bottom: -far}, -far, far, api.Rect{Left: -2 * far, Top: 2 * far, Right: 0, Bottom: 0}},
	} {
		got := rect.Shift(x.r, x.right, x.down)
		if got != x.want {
			t.Error(x, got)
		}
	}
	for _, r := range small() {
		for _, by := range []int{0, 1, -7, far / 2, -far / 2} {
			if rect.Shift(rect.Shift(r, by, 3), -by, -3) != r || rect.Shift(rect.Shift(r, 3, by), -3, -by) != r {
				t.Fatal(r, by)
			}
		}
	}
}

// P2.2: each edge by its own number, outwards, below 0 inwards, and past each other if need be.
func TestGrow(t *testing.T) {
	r := api.Rect{Left: 10, Top: 20, Right: 30, Bottom: 40}
	for _, x := range []struct {
		by   [4]int
		want api.Rect
	}{
		{[4]int{}, r},
		{[4]int{1, 0, 0, 0}, api.Rect{Left: 10, Top: 19, Right: 30, Bottom: 40}},
		{[4]int{0, 2, 0, 0}, api.Rect{Left: 10, Top: 20, Right: 32, Bottom: 40}},
		{[4]int{0, 0, 3, 0}, api.Rect{Left: 10, Top: 20, Right: 30, Bottom: 43}},
		{[4]int{0, 0, 0, 4}, api.Rect{Left: 6, Top: 20, Right: 30, Bottom: 40}},
		{[4]int{1, 2, 3, 4}, api.Rect{Left: 6, Top: 19, Right: 32, Bottom: 43}},
		{[4]int{-1, -2, -3, -4}, api.Rect{Left: 14, Top: 21, Right: 28, Bottom: 37}},
		{[4]int{-15, -15, -15, -15}, api.Rect{Left: 25, Top: 35, Right: 15, Bottom: 25}},
		{[4]int{far, far, far, far}, api.Rect{Left: 10 - far, Top: 20 - far, Right: 30 + far, Bottom: 40 + far}},
		{[4]int{-far, -far, -far, -far}, api.Rect{Left: 10 + far, Top: 20 + far, Right: 30 - far, Bottom: 40 - far}},
	} {
		got := rect.Grow(r, x.by)
		if got != x.want {
			t.Error(x, got)
		}
		if back := rect.Grow(got, [4]int{-x.by[0], -x.by[1], -x.by[2], -x.by[3]}); back != r {
			t.Error(x, back)
		}
	}
	whole := api.Rect{Left: -far, Top: -far, Right: far, Bottom: far}
	if got := rect.Grow(whole, [4]int{far, far, far, far}); got != (api.Rect{Left: -2 * far, Top: -2 * far, Right: 2 * far, Bottom: 2 * far}) {
		t.Error(got)
	}
	none := api.Rect{Left: far, Top: far, Right: -far, Bottom: -far}
	if got := rect.Grow(none, [4]int{-far, -far, -far, -far}); got != (api.Rect{Left: 2 * far, Top: 2 * far, Right: -2 * far, Bottom: -2 * far}) {
		t.Error(got)
	}
}
