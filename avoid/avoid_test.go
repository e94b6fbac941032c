package avoid_test

import (
	"math"
	"slices"
	"testing"

	"runaround/api"
	"runaround/avoid"
	"runaround/rect"
	"runaround/space"
)

// most is the greatest number of a want, -most the least one; floats stand from -end to end.
const (
	most = 1 << 48
	end  = 1 << 49
)

// left gives a left float in some columns and rows.
func left(from, to, top, bottom int) space.Float {
	return space.Float{Side: api.Left, Box: box(from, top, to, bottom)}
}

// right gives a right float in some columns and rows.
func right(from, to, top, bottom int) space.Float {
	return space.Float{Side: api.Right, Box: box(from, top, to, bottom)}
}

// of gives the space of floats, put into it in order.
func of(floats ...space.Float) *space.Space {
	s := space.New()
	for _, f := range floats {
		s.Put(f.Side, f.Box)
	}
	return s
}

// box gives a rectangle.
func box(left, top, right, bottom int) api.Rect {
	return api.Rect{Left: left, Top: top, Right: right, Bottom: bottom}
}

// want gives a want of some room and some size, which may stand from a height on.
func want(from, to, width, height, y int) avoid.Want {
	return avoid.Want{Room: rect.Span{From: from, To: to}, Width: width, Height: height, From: y}
}

// stands tells it if a want may not stand at a height, or has another left edge there.
func stands(t *testing.T, s *space.Space, w avoid.Want, y, left int) {
	t.Helper()
	if got, ok := avoid.At(s, w, y); got != left || !ok {
		t.Errorf("%v: %+v at %d: %d, %t, not %d", s.Floats(), w, y, got, ok, left)
	}
}

// standsNot tells it if a want may stand at a height after all.
func standsNot(t *testing.T, s *space.Space, w avoid.Want, y int) {
	t.Helper()
	if got, ok := avoid.At(s, w, y); got != 0 || ok {
		t.Errorf("%v: %+v at %d: %d, %t", s.Floats(), w, y, got, ok)
	}
}

// finds tells it if another place is found, or one at which it may not stand, or which a float meets.
func finds(t *testing.T, s *space.Space, w avoid.Want, found api.Rect) {
	t.Helper()
	got := avoid.Find(s, w)
	if got != found {
		t.Errorf("%v: %+v found at %v, not at %v", s.Floats(), w, got, found)
	}
	stands(t, s, w, found.Top, found.Left)
	for _, f := range s.Floats() {
		if rect.Meet(f.Box, got) {
			t.Errorf("%v: %+v found at %v, which meets %v", s.Floats(), w, got, f)
		}
	}
}

// P12.2: the chapter's example.
func TestExample(t *testing.T) {
	s := of(left(0, 3, 0, 2))
	finds(t, s, want(0, 10, 7, 4, 0), box(3, 0, 10, 4))
	finds(t, s, want(0, 10, 8, 4, 0), box(0, 2, 8, 6))
	stands(t, s, want(0, 10, 7, 4, 0), 0, 3)
	standsNot(t, s, want(0, 10, 8, 4, 0), 0)
	standsNot(t, s, want(0, 10, 8, 4, 0), 1)
	stands(t, s, want(0, 10, 8, 4, 0), 2, 0)
}

// The document's sixth example of the whole: a box as wide as its content, beside a float.
func TestExampleOfTheWhole(t *testing.T) {
	finds(t, of(left(0, 3, 0, 5)), want(0, 10, 10, 2, 0), box(0, 5, 10, 7))
	finds(t, of(right(9, 10, 0, 5)), want(0, 10, 10, 2, 0), box(0, 5, 10, 7))
}

// P12.1: where nothing floats, and where no float is full.
func TestAtInAnEmptySpace(t *testing.T) {
	for _, s := range []*space.Space{space.New(), of(left(2, 2, -9, 9), right(9, 4, -9, 9), left(-90, 90, 3, 3), right(-90, 90, 3, -5))} {
		for _, y := range []int{-most, -1, 0, 3, most} {
			for _, height := range []int{-3, 0, 1, 12} {
				for _, width := range []int{0, 1, 9, 10, 11, 90} {
					stands(t, s, want(-3, 7, width, height, 0), y, -3)
				}
				stands(t, s, want(4, 4, 0, height, 0), y, 4)
				stands(t, s, want(4, 4, 5, height, 0), y, 4)
				stands(t, s, want(4, -4, 0, height, 0), y, 4)
				stands(t, s, want(4, -4, 5, height, 0), y, 4)
			}
		}
	}
}

// P12.1: above, beside and below a left float: just as much room as its Width, and one less.
func TestAtOfALeftFloat(t *testing.T) {
	s := of(left(0, 3, 2, 5))
	for _, y := range []int{-7, 0, 1, 5, 6, 90} {
		stands(t, s, want(0, 10, 10, 1, 0), y, 0)
		stands(t, s, want(0, 10, 11, 1, 0), y, 0)
	}
	for y := 2; y < 5; y++ {
		stands(t, s, want(0, 10, 1, 1, 0), y, 3)
		stands(t, s, want(0, 10, 7, 1, 0), y, 3)
		standsNot(t, s, want(0, 10, 8, 1, 0), y)
		standsNot(t, s, want(0, 10, 11, 1, 0), y)
	}
}

// P12.1: above, beside and below a right float.
func TestAtOfARightFloat(t *testing.T) {
	s := of(right(6, 10, 2, 5))
	for _, y := range []int{-7, 0, 1, 5, 6, 90} {
		stands(t, s, want(0, 10, 10, 1, 0), y, 0)
		stands(t, s, want(0, 10, 11, 1, 0), y, 0)
	}
	for y := 2; y < 5; y++ {
		stands(t, s, want(0, 10, 1, 1, 0), y, 0)
		stands(t, s, want(0, 10, 6, 1, 0), y, 0)
		standsNot(t, s, want(0, 10, 7, 1, 0), y)
		standsNot(t, s, want(0, 10, 11, 1, 0), y)
	}
}

// P12.1: between floats of both sides.
func TestAtBetweenTwo(t *testing.T) {
	s := of(left(0, 3, 2, 5), right(8, 10, 3, 7))
	for _, x := range []struct{ y, left, room int }{
		{1, 0, 10}, {2, 3, 7}, {3, 3, 5}, {4, 3, 5}, {5, 0, 8}, {6, 0, 8}, {7, 0, 10},
	} {
		for width := range x.room + 1 {
			stands(t, s, want(0, 10, width, 1, 0), x.y, x.left)
		}
		if x.room < 10 {
			standsNot(t, s, want(0, 10, x.room+1, 1, 0), x.y)
			standsNot(t, s, want(0, 10, 11, 1, 0), x.y)
		}
	}
	// the greatest edge of left ones, and the least one of right ones, count
	s = of(left(0, 3, 0, 9), left(3, 5, 0, 9), left(0, 2, 0, 9), right(9, 10, 0, 9), right(8, 9, 0, 9), right(9, 12, 0, 9))
	stands(t, s, want(0, 10, 3, 1, 0), 4, 5)
	standsNot(t, s, want(0, 10, 4, 1, 0), 4)
}

// P12.1: a Room that lies beside all floats is all free; one beyond a float's own side is not.
func TestAtBesideAllFloats(t *testing.T) {
	s := of(left(0, 3, 2, 5), right(20, 22, 2, 5))
	stands(t, s, want(5, 15, 10, 2, 0), 3, 5)
	stands(t, s, want(3, 20, 17, 2, 0), 3, 3)
	stands(t, s, want(5, 15, 15, 2, 0), 3, 5)
	standsNot(t, s, want(5, 15, 16, 2, 0), 3)
	for _, width := range []int{0, 2, 5, 6} {
		standsNot(t, s, want(-8, -3, width, 2, 0), 3)
		standsNot(t, s, want(30, 35, width, 2, 0), 3)
		stands(t, s, want(-8, -3, width, 2, 0), 5, -8)
		stands(t, s, want(30, 35, width, 2, 0), 0, 30)
	}
	// nor is one that begins in a right float, or ends in a left one, of any length
	standsNot(t, s, want(21, 25, 1, 2, 0), 3)
	standsNot(t, s, want(-5, 2, 1, 2, 0), 3)
}

// P12.1: a Room of no length: no Width fits into it by room but 0, and others go as wider ones.
func TestAtOfNoLength(t *testing.T) {
	s := of(left(0, 3, 2, 5), right(8, 10, 2, 5))
	for from := 3; from <= 8; from++ {
		for width := range 9 - from {
			stands(t, s, want(from, from, width, 1, 0), 2, from)
		}
		standsNot(t, s, want(from, from, 9-from, 1, 0), 2)
		stands(t, s, want(from, from, 9-from, 1, 0), 5, from)
	}
	for _, from := range []int{-4, 0, 2, 9, 10, 14} {
		for _, width := range []int{0, 1, 20} {
			standsNot(t, s, want(from, from, width, 1, 0), 4)
			stands(t, s, want(from, from, width, 1, 0), 5, from)
		}
	}
}

// P12.1: a Room of a length below 0 has no room for anything, not even for a Width of 0, but lets it stand where no
// float reaches in; where it ends is all the same.
func TestAtOfALengthBelowNought(t *testing.T) {
	s := of(left(0, 3, 2, 5), right(8, 10, 2, 5))
	for _, to := range []int{-most, -6, 0, 2} {
		for from := 3; from <= 8; from++ {
			for width := range 9 - from {
				stands(t, s, want(from, to, width, 1, 0), 2, from)
			}
			standsNot(t, s, want(from, to, 9-from, 1, 0), 2)
		}
		for _, from := range []int{9, 14} {
			for _, width := range []int{0, 1, 20} {
				standsNot(t, s, want(from, to, width, 1, 0), 4)
				stands(t, s, want(from, to, width, 1, 0), 1, from)
			}
		}
	}
	standsNot(t, s, want(2, 1, 0, 1, 0), 4)
	standsNot(t, s, want(-2, -9, 0, 1, 0), 4)
}

// P12.1: wider than its Room: what a left float may do at its left end.
func TestAtWiderByALeftFloat(t *testing.T) {
	for _, x := range []struct {
		float  space.Float
		stands bool
	}{
		{left(-5, 4, 0, 9), true},  // beside the Room
		{left(-5, 5, 0, 9), true},  // just up to its left end
		{left(-5, 6, 0, 9), false}, // over its left end
		{left(5, 6, 0, 9), false},  // from its left end on
		{left(7, 8, 0, 9), false},  // within it
		{left(10, 12, 0, 9), false},
		{left(40, 50, 0, 9), false},  // beyond the box, but all left of it is a left float's
		{left(-5, 6, 9, 12), true},   // below the box
		{left(-5, 6, -2, 0), true},   // above it
		{left(-5, 6, 3, 4), false},   // beside its last row alone
		{left(-5, 6, 4, 5), true},    // just below that
		{left(-5, 6, 4, 3), true},    // without a point
		{left(6, 5, 0, 9), true},     // without a point
		{left(-90, -80, 0, 9), true}, // far off
	} {
		w := want(5, 10, 6, 4, 0)
		if s := of(x.float); x.stands {
			stands(t, s, w, 0, 5)
		} else {
			standsNot(t, s, w, 0)
		}
	}
}

// P12.1: wider than its Room: what a right float may do at the box's right edge.
func TestAtWiderByARightFloat(t *testing.T) {
	for _, x := range []struct {
		float  space.Float
		stands bool
	}{
		{right(12, 20, 0, 9), true},   // beyond the box
		{right(11, 20, 0, 9), true},   // just from Room.From and the Width on
		{right(10, 20, 0, 9), false},  // one before
		{right(9, 20, 0, 9), false},   // into the Room
		{right(5, 20, 0, 9), false},   // from its left end on
		{right(-5, 5, 0, 9), false},   // left of the Room, but all right of it is a right float's
		{right(10, 20, 9, 12), true},  // below the box
		{right(10, 20, -2, 0), true},  // above it
		{right(10, 20, 3, 4), false},  // beside its last row alone
		{right(10, 20, 4, 5), true},   // just below that
		{right(10, 20, 9, 0), true},   // without a point
		{right(20, 10, 0, 9), true},   // without a point
		{right(100, 120, 0, 9), true}, // far off
	} {
		w := want(5, 10, 6, 4, 0)
		if s := of(x.float); x.stands {
			stands(t, s, w, 0, 5)
		} else {
			standsNot(t, s, w, 0)
		}
	}
}

// P12.1: wider than its Room, between floats of both sides.
func TestAtWiderBetweenTwo(t *testing.T) {
	for _, to := range []int{-9, 3, 4, 7} {
		stands(t, of(left(0, 3, 0, 9), right(8, 9, 0, 9)), want(3, to, 5, 4, 0), 0, 3)
		stands(t, of(left(0, 3, 0, 2), right(8, 9, 2, 9)), want(3, to, 5, 4, 0), 0, 3)
		standsNot(t, of(left(0, 3, 0, 9), right(7, 9, 0, 9)), want(3, to, 5, 4, 0), 0)
		standsNot(t, of(left(0, 4, 0, 9), right(8, 9, 0, 9)), want(3, to, 5, 4, 0), 0)
		standsNot(t, of(left(0, 4, 0, 9), right(12, 13, 0, 9)), want(3, to, 5, 4, 0), 0)
	}
	// what is just as wide as its Room has to have room
	stands(t, of(left(0, 3, 0, 9), right(8, 9, 0, 9)), want(3, 8, 5, 4, 0), 0, 3)
	standsNot(t, of(left(0, 4, 0, 9), right(9, 10, 0, 9)), want(3, 8, 5, 4, 0), 0)
	standsNot(t, of(left(0, 3, 0, 9), right(7, 9, 0, 9)), want(3, 8, 5, 4, 0), 0)
}

// P12.1: a Width of 0 needs a place, though no room: it isn't where floats are across all of the Room.
func TestAtOfNoWidth(t *testing.T) {
	stands(t, of(left(0, 10, 0, 9)), want(0, 10, 0, 1, 0), 0, 10)
	standsNot(t, of(left(0, 11, 0, 9)), want(0, 10, 0, 1, 0), 0)
	stands(t, of(right(0, 10, 0, 9)), want(0, 10, 0, 1, 0), 0, 0)
	standsNot(t, of(right(-1, 10, 0, 9)), want(0, 10, 0, 1, 0), 0)
	stands(t, of(left(0, 6, 0, 9), right(6, 9, 0, 9)), want(0, 10, 0, 1, 0), 0, 6)
	standsNot(t, of(left(0, 6, 0, 9), right(5, 9, 0, 9)), want(0, 10, 0, 1, 0), 0)
	standsNot(t, of(left(0, 6, 0, 9), right(5, 9, 0, 9)), want(0, 10, 0, 0, 0), 0)
	stands(t, of(left(0, 6, 0, 3), right(5, 9, 3, 9)), want(0, 10, 0, 3, 0), 0, 6)
	standsNot(t, of(left(0, 6, 0, 3), right(5, 9, 3, 9)), want(0, 10, 0, 4, 0), 0)
}

// P12.1: it has as many rows as its Height, but one at least.
func TestAtInAllRows(t *testing.T) {
	s := of(left(0, 3, 5, 7), right(6, 10, 9, 10))
	for _, x := range []struct{ y, height, left, room int }{
		{4, 1, 0, 10}, {4, 2, 3, 7}, {3, 2, 0, 10}, {3, 3, 3, 7}, {5, 1, 3, 7}, {6, 1, 3, 7}, {7, 1, 0, 10},
		{7, 2, 0, 10}, {7, 3, 0, 6}, {6, 3, 3, 7}, {6, 4, 3, 3}, {0, 9, 3, 7}, {0, 10, 3, 3}, {-90, 400, 3, 3},
		{5, 0, 3, 7}, {5, -1, 3, 7}, {5, -90, 3, 7}, {4, 0, 0, 10}, {7, -2, 0, 10}, {8, 0, 0, 10}, {9, 0, 0, 6},
		{9, -3, 0, 6}, {10, -3, 0, 10}, {10, 300, 0, 10}, {0, most, 3, 3}, {8, -most, 0, 10}, {9, -most, 0, 6},
	} {
		stands(t, s, want(0, 10, x.room, x.height, 0), x.y, x.left)
		if x.room < 10 {
			standsNot(t, s, want(0, 10, x.room+1, x.height, 0), x.y)
		}
	}
}

// P12.1: At looks at the height that it is asked of, whatever From is.
func TestAtHangsOnNoFrom(t *testing.T) {
	s := of(left(0, 3, 2, 5))
	for _, from := range []int{-most, 0, 3, 9, most} {
		stands(t, s, want(0, 10, 8, 1, from), 1, 0)
		standsNot(t, s, want(0, 10, 8, 1, from), 2)
		standsNot(t, s, want(0, 10, 8, 1, from), 4)
		stands(t, s, want(0, 10, 7, 1, from), 4, 3)
		stands(t, s, want(0, 10, 8, 1, from), 5, 0)
	}
}

// P12.2: found at From, where it may stand there: above all floats, among them, and below them.
func TestFindAtFrom(t *testing.T) {
	finds(t, space.New(), want(-5, 5, 3, 3, -7), box(-5, -7, -2, -4))
	finds(t, space.New(), want(-5, 5, 13, 0, 9), box(-5, 9, 8, 9))
	s := of(left(0, 3, 2, 9), right(8, 10, 4, 7))
	finds(t, s, want(0, 10, 10, 6, -4), box(0, -4, 10, 2))
	finds(t, s, want(0, 10, 10, 2, 0), box(0, 0, 10, 2))
	finds(t, s, want(0, 10, 7, 4, 0), box(3, 0, 10, 4))
	finds(t, s, want(0, 10, 5, 90, 0), box(3, 0, 8, 90))
	finds(t, s, want(0, 10, 5, 2, 5), box(3, 5, 8, 7))
	finds(t, s, want(0, 10, 7, 1, 3), box(3, 3, 10, 4))
	finds(t, s, want(0, 10, 7, 20, 8), box(3, 8, 10, 28))
	finds(t, s, want(0, 10, 10, 3, 9), box(0, 9, 10, 12))
	finds(t, s, want(0, 10, 30, 3, 40), box(0, 40, 30, 43))
	finds(t, s, want(3, 7, 5, 20, 0), box(3, 0, 8, 20))
	finds(t, s, want(3, -7, 5, 20, 0), box(3, 0, 8, 20))
}

// P12.2: found where a shelf begins below From.
func TestFindAtAShelf(t *testing.T) {
	s := of(left(0, 3, 0, 9), right(8, 10, 0, 7), right(6, 8, 0, 5))
	finds(t, s, want(0, 10, 4, 3, 0), box(3, 5, 7, 8))
	finds(t, s, want(0, 10, 5, 30, 1), box(3, 5, 8, 35))
	finds(t, s, want(0, 10, 6, 1, 1), box(3, 7, 9, 8))
	finds(t, s, want(0, 6, 4, 1, 6), box(0, 9, 4, 10))
	finds(t, s, want(4, 6, 5, 2, 1), box(4, 7, 9, 9))
	finds(t, s, want(4, 3, 4, 2, 4), box(4, 5, 8, 7))
	finds(t, s, want(0, 10, 4, -8, 0), box(3, 5, 7, -3))
	finds(t, s, want(0, 10, 10, 0, 8), box(0, 9, 10, 9))
}

// P12.2: room in its first row is not enough, where a float begins beside a lower one.
func TestFindBesideAFloatThatBeginsBelow(t *testing.T) {
	s := of(left(0, 3, 2, 5))
	finds(t, s, want(0, 10, 8, 2, 0), box(0, 0, 8, 2))
	finds(t, s, want(0, 10, 8, 3, 0), box(0, 5, 8, 8))
	finds(t, s, want(0, 10, 8, 2, 1), box(0, 5, 8, 7))
	finds(t, s, want(0, 10, 7, 3, 0), box(3, 0, 10, 3))
	s = of(right(6, 10, 2, 5))
	finds(t, s, want(0, 10, 7, 2, 0), box(0, 0, 7, 2))
	finds(t, s, want(0, 10, 7, 3, 0), box(0, 5, 7, 8))
	finds(t, s, want(0, 10, 6, 3, 0), box(0, 0, 6, 3))
	// of two floats, one beside its first rows, the other one beside its last ones
	s = of(left(0, 3, 0, 4), right(8, 10, 6, 9))
	finds(t, s, want(0, 10, 7, 6, 0), box(3, 0, 10, 6))
	finds(t, s, want(0, 10, 6, 7, 0), box(0, 4, 6, 11))
	finds(t, s, want(0, 10, 8, 7, 0), box(0, 4, 8, 11))
	finds(t, s, want(0, 10, 9, 3, 0), box(0, 9, 9, 12))
	finds(t, s, want(0, 10, 9, 2, 0), box(0, 4, 9, 6))
	// in the gaps between floats: the first one that is high enough
	s = of(left(0, 3, 2, 5), left(0, 3, 6, 8), left(0, 3, 10, 11), left(0, 3, 14, 15))
	for height, top := range []int{0, 0, 0, 11, 15, 15} {
		finds(t, s, want(0, 10, 9, height, 0), box(0, top, 9, top+height))
	}
	for height, top := range []int{5, 5, 8, 11, 15} {
		finds(t, s, want(0, 10, 9, height, 3), box(0, top, 9, top+height))
	}
}

// P12.2: found below all floats alone: too wide for the room beside any.
func TestFindBelowAll(t *testing.T) {
	s := of(left(0, 3, 0, 9), right(8, 10, 2, 12), left(3, 4, 3, 14))
	finds(t, s, want(0, 10, 10, 2, 0), box(0, 14, 10, 16))
	finds(t, s, want(0, 10, 12, 2, 0), box(0, 14, 12, 16))
	finds(t, s, want(0, 10, 12, 2, -1), box(0, 14, 12, 16))
	finds(t, s, want(0, 10, 12, 2, 5), box(0, 14, 12, 16))
	finds(t, s, want(0, 10, 12, -4, 5), box(0, 14, 12, 10))
	finds(t, s, want(-20, -10, 1, 3, 5), box(-20, 14, -19, 17))
	finds(t, s, want(-20, -30, 0, 0, 5), box(-20, 14, -20, 14))
	finds(t, s, want(9, 4, 0, 0, 3), box(9, 12, 9, 12))
}

// P12.2: floats that aren't full are in nobody's way.
func TestFindOverFloatsThatAreNotFull(t *testing.T) {
	s := of(left(0, 5, 4, 4), right(6, 4, 5, 9), left(0, 7, 6, 2), left(3, 3, 0, 20))
	for _, from := range []int{-9, 0, 3, 5, 30} {
		finds(t, s, want(0, 10, 10, 3, from), box(0, from, 10, from+3))
		finds(t, s, want(0, 10, 12, 13, from), box(0, from, 12, from+13))
	}
}

// P12.1 and P12.2: the greatest and the least numbers of wants, where nothing floats.
func TestFarWants(t *testing.T) {
	s := space.New()
	finds(t, s, want(-most, most, most, most, most), box(-most, most, 0, 2*most))
	finds(t, s, want(most, most, most, -most, -most), box(most, -most, 2*most, -2*most))
	finds(t, s, want(most, -most, most, most, -most), box(most, -most, 2*most, 0))
	finds(t, s, want(most, -most, 0, 0, most), box(most, most, most, most))
	finds(t, s, want(-most, -most, most, 1, 0), box(-most, 0, 0, 1))
	finds(t, s, want(-most, -most, 0, -most, -most), box(-most, -most, -most, -2*most))
}

// P12.1: floats that stand as far as they may, beside wants of the greatest and the least numbers.
func TestAtOfFarFloats(t *testing.T) {
	s := of(left(-end, -most, -end, end), right(most, end, -end, end))
	for _, y := range []int{-end, -most, 0, most, end - 1} {
		stands(t, s, want(-most, most, most, most, 0), y, -most)
		standsNot(t, s, want(most, most, most, 1, 0), y)
		stands(t, s, want(most, -most, 0, 1, 0), y, most)
		standsNot(t, s, want(most, -most, 1, -most, 0), y)
		stands(t, s, want(-most, -most, most, most, 0), y, -most)
	}
	for _, y := range []int{-end - 1, end} {
		stands(t, s, want(most, most, most, 1, 0), y, most)
		stands(t, s, want(most, -most, most, 0, 0), y, most)
	}
	standsNot(t, s, want(most, most, most, 2, 0), -end-1)
	s = of(left(-end, end, -end, end), right(-end, end, -end, end))
	for _, w := range []avoid.Want{want(-most, most, 0, 1, 0), want(most, -most, 0, 1, 0), want(-most, most, most, most, 0)} {
		standsNot(t, s, w, -end)
		standsNot(t, s, w, 0)
		standsNot(t, s, w, end-1)
		stands(t, s, w, end, w.Room.From)
	}
	// floats that begin just at the box's right edge, and one before
	stands(t, of(right(end-1, end, -end, end)), want(most, most, most-1, 1, 0), 0, most)
	standsNot(t, of(right(end-1, end, -end, end)), want(most, most, most, 1, 0), 0)
	stands(t, of(left(-end, 1-end, -end, end)), want(-most, most, most, 1, 0), 0, -most)
}

// P12.1: any height may be asked of: what lies beyond the first row, and the last one, is free.
func TestAtOfAnyHeight(t *testing.T) {
	s := of(left(-end, end, -end, end))
	for _, height := range []int{-most, 0, 1, most} {
		for _, y := range []int{math.MinInt, math.MinInt + 1, -1 << 60, 1 << 60, math.MaxInt - most, math.MaxInt - 1, math.MaxInt} {
			stands(t, s, want(-most, most, most, height, 0), y, -most)
			stands(t, s, want(most, -most, 0, height, 0), y, most)
		}
	}
}

// P12.2: where wants of the greatest and the least numbers are found, among floats that stand as far as they may.
func TestFindOfFarFloats(t *testing.T) {
	s := of(left(-end, end, -end, end))
	finds(t, s, want(-most, most, most, most, -most), box(-most, end, 0, end+most))
	finds(t, s, want(most, -most, 0, -most, most), box(most, end, most, end-most))
	s = of(right(-end, end, end-1, end))
	finds(t, s, want(-most, most, most, most, -most), box(-most, -most, 0, 0))
	finds(t, s, want(-most, most, most, most, most-1), box(-most, most-1, 0, end-1))
	finds(t, s, want(-most, most, most, most, most), box(-most, end, 0, end+most))
	s = of(left(-end, end, -end, 1-most), right(-end, end, 1, end))
	finds(t, s, want(-most, most, most, most, -most), box(-most, 1-most, 0, 1))
	finds(t, s, want(-most, most, most, most, 1-most), box(-most, 1-most, 0, 1))
	finds(t, s, want(-most, most, most, most, 2-most), box(-most, end, 0, end+most))
	finds(t, s, want(-most, most, most, 1, -most), box(-most, 1-most, 0, 2-most))
	finds(t, s, want(-most, most, most, 0, 1), box(-most, end, 0, end))
	s = of(left(-end, 1-most, -end, end), right(most-1, end, 0, end))
	finds(t, s, want(-most, most, most, most, -most), box(1-most, -most, 1, 0))
	finds(t, s, want(1-most, 0, most, most, -most), box(1-most, -most, 1, 0))
	finds(t, s, want(-most, -most, most, most, -most), box(-most, end, 0, end+most))
}

// K4 and K5: asking, with or without an answer, changes nothing that a space has.
func TestAskingChangesNothing(t *testing.T) {
	floats := []space.Float{left(0, 3, 2, 9), right(8, 10, 4, 7), left(0, 5, 6, 2), right(7, 8, 20, 22)}
	s := of(floats...)
	shelves := s.Shelves()
	for range 3 {
		for _, width := range []int{0, 5, 6, 7, 8, 10, 12} {
			for y := -2; y < 24; y++ {
				avoid.At(s, want(0, 10, width, 3, 0), y)
				avoid.Find(s, want(0, 10, width, 3, y))
				avoid.Find(s, want(3, -10, width, 30, y))
			}
		}
		finds(t, s, want(0, 10, 8, 2, 0), box(0, 0, 8, 2))
		finds(t, s, want(0, 10, 8, 3, 0), box(0, 9, 8, 12))
		standsNot(t, s, want(0, 10, 8, 3, 0), 0)
	}
	if !slices.Equal(s.Floats(), floats) || !slices.Equal(s.Shelves(), shelves) {
		t.Error(s.Floats(), s.Shelves())
	}
	if top, ok := s.Last(); top != 20 || !ok {
		t.Error(top, ok)
	}
	if bottom, ok := s.Bottom(api.Both); bottom != 22 || !ok {
		t.Error(bottom, ok)
	}
}
