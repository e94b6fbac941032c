package space_test

import (
	"math"
	"slices"
	"testing"

	"runaround/api"
	"runaround/rect"
	"runaround/space"
)

// first tells it if First doesn't answer this, or asks other numbers than these.
func first(t *testing.T, s *space.Space, y int, so func(y int) bool, want int, wanted ...int) {
	t.Helper()
	var asked []int
	got := s.First(y, func(y int) bool {
		asked = append(asked, y)
		return so(y)
	})
	if got != want || !slices.Equal(asked, wanted) {
		t.Errorf("%v: first from %d on: %d, asked %v; not %d, asked %v", s.Floats(), y, got, asked, want, wanted)
	}
}

// always and never are so of any y, and of none.
func always(int) bool { return true }
func never(int) bool  { return false }

// from is so from a y on.
func from(at int) func(y int) bool { return func(y int) bool { return y >= at } }

// just is so of one y.
func just(at int) func(y int) bool { return func(y int) bool { return y == at } }

// long is so where so much of some columns is free.
func long(s *space.Space, columns rect.Span, height, wide int) func(y int) bool {
	return func(y int) bool { return s.Free(columns, space.Rows(y, height)).Len() >= wide }
}

// P10.3: the chapter's example.
func TestExample(t *testing.T) {
	s := of(left(3, 2, 5))
	first(t, s, 3, long(s, span(0, 10), 1, 10), 5, 3, 5)
	first(t, s, 3, func(y int) bool { return s.Bounds(space.Rows(y, 1)) == span(-far, far) }, 5, 3, 5)
}

// P10.3: in an empty space there is no Top but the first shelf's, which lies above all that floats.
func TestFirstOfAnEmptySpace(t *testing.T) {
	s := space.New()
	for _, y := range []int{-far, 1 - far, -most, -3, 0, 5, most, far, math.MaxInt} {
		first(t, s, y, always, y, y)
		first(t, s, y, never, y, y)
	}
	first(t, s, -far-1, always, -far-1, -far-1)
	first(t, s, -far-1, never, -far, -far-1, -far)
	first(t, s, math.MinInt, from(-far), -far, math.MinInt, -far)
}

// P10.3: what is so of y at once is asked of nothing else, wherever y lies.
func TestFirstAtOnce(t *testing.T) {
	s := of(left(3, 2, 5), right(8, 4, 7))
	for _, y := range []int{math.MinInt, -far, -most, 0, 1, 2, 3, 4, 5, 6, 7, 8, 90, most, far, math.MaxInt} {
		first(t, s, y, always, y, y)
		first(t, s, y, just(y), y, y)
	}
}

// P10.3: what is so of a Top below, of the next one or of a later one.
func TestFirstBelow(t *testing.T) {
	s := of(left(3, 2, 5), right(8, 4, 7), left(6, 9, 10))
	first(t, s, 0, from(1), 2, 0, 2)
	first(t, s, 0, from(3), 4, 0, 2, 4)
	first(t, s, 0, from(5), 5, 0, 2, 4, 5)
	first(t, s, 0, from(6), 7, 0, 2, 4, 5, 7)
	first(t, s, 0, from(10), 10, 0, 2, 4, 5, 7, 9, 10)
	first(t, s, 2, from(3), 4, 2, 4)
	first(t, s, 3, from(4), 4, 3, 4)
	first(t, s, 4, just(7), 7, 4, 5, 7)
	first(t, s, 5, just(9), 9, 5, 7, 9)
	first(t, s, 6, just(7), 7, 6, 7)
	first(t, s, 9, just(10), 10, 9, 10)
	first(t, s, -most, just(2), 2, -most, 2)
	first(t, s, math.MinInt, just(-far), -far, math.MinInt, -far)
	first(t, s, math.MinInt, just(2), 2, math.MinInt, -far, 2)
}

// P10.3: what is so only between two Tops, or of a float's Top that no shelf has, isn't found there.
func TestFirstBetweenTops(t *testing.T) {
	s := of(left(3, 2, 5), left(1, 3, 4), left(3, 5, 8), left(3, 11, 11), right(2, 13, 12))
	first(t, s, 0, just(1), 8, 0, 2, 8)
	first(t, s, 0, just(3), 8, 0, 2, 8)
	first(t, s, 0, just(5), 8, 0, 2, 8)
	first(t, s, 2, just(6), 8, 2, 8)
	first(t, s, 0, just(11), 8, 0, 2, 8)
	first(t, s, 0, just(13), 8, 0, 2, 8)
	first(t, s, 3, just(3), 3, 3)
}

// P10.3: what is so of none is answered the greatest Top of all, or y, if that is greater.
func TestFirstOfNone(t *testing.T) {
	s := of(left(3, 2, 5), right(8, 3, 9), left(0, 40, 40), left(2, 4, 1))
	first(t, s, 1, never, 9, 1, 2, 3, 5, 9)
	first(t, s, 2, never, 9, 2, 3, 5, 9)
	first(t, s, 4, never, 9, 4, 5, 9)
	first(t, s, 8, never, 9, 8, 9)
	first(t, s, 9, never, 9, 9)
	first(t, s, 10, never, 10, 10)
	first(t, s, 40, never, 40, 40)
	first(t, s, most, never, most, most)
	first(t, s, math.MaxInt, never, math.MaxInt, math.MaxInt)
	first(t, s, -far, never, 9, -far, 2, 3, 5, 9)
	first(t, s, math.MinInt, never, 9, math.MinInt, -far, 2, 3, 5, 9)
	above := of(left(3, -9, -5))
	first(t, above, -20, never, -5, -20, -9, -5)
	first(t, above, -5, never, -5, -5)
	first(t, above, 0, never, 0, 0)
}

// P10.3: so that was true once may be false again: the first one counts.
func TestFirstOfSome(t *testing.T) {
	s := of(left(3, 2, 5), right(8, 4, 7), left(6, 9, 10))
	odd := func(y int) bool { return y%2 != 0 }
	first(t, s, 0, odd, 5, 0, 2, 4, 5)
	first(t, s, 6, odd, 7, 6, 7)
	first(t, s, 8, odd, 9, 8, 9)
	first(t, s, 10, odd, 10, 10)
}

// P10.3: so much room, in so many rows.
func TestFirstWithRoom(t *testing.T) {
	s := of(left(3, 2, 5), right(8, 3, 9), left(6, 12, 14))
	columns := span(0, 10)
	first(t, s, 1, long(s, columns, 1, 10), 1, 1)
	first(t, s, 1, long(s, columns, 2, 10), 9, 1, 2, 3, 5, 9)
	first(t, s, 1, long(s, columns, 2, 7), 1, 1)
	first(t, s, 2, long(s, columns, 1, 7), 2, 2)
	first(t, s, 2, long(s, columns, 2, 7), 5, 2, 3, 5)
	first(t, s, 1, long(s, columns, 2, 8), 5, 1, 2, 3, 5)
	first(t, s, 1, long(s, columns, 4, 10), 14, 1, 2, 3, 5, 9, 12, 14)
	first(t, s, 1, long(s, columns, 4, 11), 14, 1, 2, 3, 5, 9, 12, 14)
	first(t, s, 6, long(s, columns, 0, 9), 9, 6, 9)
	first(t, s, 6, long(s, columns, -4, 9), 9, 6, 9)
}

// P10.3: Tops that come to be none of any shelf aren't asked any more; those that come are.
func TestFirstGoesByTheShelvesAsTheyAre(t *testing.T) {
	s := of(left(3, 2, 5), left(2, 5, 8))
	first(t, s, 0, never, 8, 0, 2, 5, 8)
	s.Put(api.Left, api.Rect{Left: 0, Top: 5, Right: 3, Bottom: 8})
	first(t, s, 0, never, 8, 0, 2, 8)
	s.Put(api.Right, api.Rect{Left: 9, Top: 6, Right: 12, Bottom: 11})
	first(t, s, 0, never, 11, 0, 2, 6, 8, 11)
}

// P10.3: the greatest and the least numbers that floats have.
func TestFirstOfFarNumbers(t *testing.T) {
	s := of(left(3, -most, 1-most), right(8, most-1, most))
	first(t, s, -most-1, never, most, -most-1, -most, 1-most, most-1, most)
	first(t, s, -most, never, most, -most, 1-most, most-1, most)
	first(t, s, 1-most, just(most-1), most-1, 1-most, most-1)
	first(t, s, 0, from(1), most-1, 0, most-1)
	first(t, s, most-1, never, most, most-1, most)
	first(t, s, most, never, most, most)
	first(t, s, -far, just(-most), -most, -far, -most)
}

// P10.3: so may ask the space itself.
func TestSoMayAsk(t *testing.T) {
	s := of(left(3, 2, 5), right(8, 4, 7))
	first(t, s, 0, func(y int) bool { return s.First(y, from(y+1)) == 7 }, 5, 0, 2, 4, 5)
}
