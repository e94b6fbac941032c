package spot_test

import (
	"testing"

	"runaround/spot"
	"runaround/strut"
)

// far is the greatest number that the chapter allows; -far is the least one.
const far = 1 << 58

// ends has both ends of what is allowed, and a few numbers between them.
var ends = []int{-far, 1 - far, -7, -1, 0, 1, 3, far - 1, far}

// plain gives a spot that is neither held nor spent.
func plain(y, most, least int) spot.Spot {
	return spot.Spot{Y: y, Strut: strut.Strut{Most: most, Least: least}}
}

// held gives a spot that is held alone.
func held(y, most, least int) spot.Spot {
	s := plain(y, most, least)
	s.Held = true
	return s
}

// spent gives a spot that is spent alone.
func spent(y, most, least int) spot.Spot {
	s := plain(y, most, least)
	s.Spent = true
	return s
}

// both gives a spot that is held and spent.
func both(y, most, least int) spot.Spot {
	s := held(y, most, least)
	s.Spent = true
	return s
}

// spots has spots of all ends, with struts of margins and others, held and spent or not.
func spots() []spot.Spot {
	var all []spot.Spot
	for _, y := range ends {
		for _, m := range ends {
			for _, n := range ends {
				all = append(all, plain(y, m, n), held(y, m, n), spent(y, m, n), both(y, m, n))
			}
		}
	}
	return all
}

// P15.1, K8: a Spot has just these fields, in this order; and each of them counts where spots are held against each other.
func TestSpotFields(t *testing.T) {
	s := spot.Spot{4, strut.Of(5, -2), true, false}
	if s.Y != 4 || s.Strut != strut.Of(5, -2) || !s.Held || s.Spent {
		t.Error(s)
	}
	if s != held(4, 5, -2) {
		t.Error(s, "isn't what it is")
	}
	for _, other := range []spot.Spot{{}, held(3, 5, -2), held(4, 6, -2), held(4, 5, -1), plain(4, 5, -2), spent(4, 5, -2), both(4, 5, -2)} {
		if s == other {
			t.Error(s, other)
		}
	}
}

// P15.2: the zero Spot is the top of a content.
func TestZeroSpot(t *testing.T) {
	var s spot.Spot
	if s != plain(0, 0, 0) || s != spot.Below(0, 0) || s == spot.Cleared(0, 0) {
		t.Error(s)
	}
	if s.At() != 0 || s.With(0) != s || s.Fix(0) != s || s.Pass(0) != s {
		t.Error(s.At(), s.With(0), s.Fix(0), s.Pass(0))
	}
	if got := s.With(4); got != plain(0, 4, 0) || got.At() != 4 {
		t.Error(got)
	}
	if got := s.Pass(-4); got != plain(0, 0, -4) || got.At() != -4 {
		t.Error(got)
	}
	if got := s.Fix(9); got != plain(9, 0, 0) {
		t.Error(got)
	}
}

// P15.2: example 1.
func TestExample(t *testing.T) {
	for _, s := range []spot.Spot{spot.Below(10, 4).With(-1), spot.Below(10, -1).With(4), {Y: 10, Strut: strut.Of(4, -1)}} {
		if s.At() != 13 {
			t.Error(s, s.At())
		}
	}
}

// P15.1: a margin above 0, below 0 and of 0, at a y of each sign, and at both ends; the whole spot.
func TestBelowAndCleared(t *testing.T) {
	for _, x := range []struct{ y, margin, most, least int }{
		{10, 4, 4, 0},
		{10, -4, 0, -4},
		{10, 0, 0, 0},
		{-10, 1, 1, 0},
		{-10, -1, 0, -1},
		{-10, 0, 0, 0},
		{0, 7, 7, 0},
		{0, -7, 0, -7},
		{0, 0, 0, 0},
		{far, far, far, 0},
		{far, -far, 0, -far},
		{far, 0, 0, 0},
		{-far, far, far, 0},
		{-far, -far, 0, -far},
		{-far, 0, 0, 0},
	} {
		if got := spot.Below(x.y, x.margin); got != plain(x.y, x.most, x.least) {
			t.Error("Below", x, got)
		}
		if got := spot.Cleared(x.y, x.margin); got != spent(x.y, x.most, x.least) {
			t.Error("Cleared", x, got)
		}
	}
}

// P15.2: Y and what all margins come to; of a spent spot Y alone.
func TestAt(t *testing.T) {
	for _, x := range []struct {
		s    spot.Spot
		want int
	}{
		{plain(10, 0, 0), 10},
		{plain(10, 4, 0), 14},
		{plain(10, 0, -4), 6},
		{plain(10, 4, -1), 13},
		{plain(10, 1, -4), 7},
		{plain(10, 4, -4), 10},
		{plain(-10, 4, 0), -6},
		{plain(-10, 0, -4), -14},
		{held(10, 0, 0), 10},
		{held(10, 4, 0), 14},
		{held(10, 0, -4), 6},
		{held(10, 4, -1), 13},
		{spent(10, 0, 0), 10},
		{spent(10, 4, 0), 10},
		{spent(10, 0, -4), 10},
		{spent(10, 4, -1), 10},
		{spent(-10, 1, -4), -10},
		{both(10, 4, 0), 10},
		{both(10, 0, -4), 10},
		{both(10, 4, -1), 10},
		{plain(far, far, 0), 2 * far},
		{plain(far, 0, -far), 0},
		{plain(-far, 0, -far), -2 * far},
		{plain(-far, far, 0), 0},
		{plain(far, far, 1-far), far + 1},
		{spent(far, far, 0), far},
		{spent(-far, 0, -far), -far},
	} {
		if got := x.s.At(); got != x.want {
			t.Error(x.s, got, "not", x.want)
		}
	}
}

// P15.2: margins that change the strut, and such as don't; held and spent stay what they were, and Y does.
func TestWith(t *testing.T) {
	for _, x := range []struct{ most, least, margin, wantMost, wantLeast int }{
		{0, 0, 0, 0, 0},
		{0, 0, 3, 3, 0},
		{0, 0, -3, 0, -3},
		{5, -2, 0, 5, -2},
		{5, -2, 5, 5, -2},
		{5, -2, 4, 5, -2},
		{5, -2, 6, 6, -2},
		{5, -2, -2, 5, -2},
		{5, -2, -1, 5, -2},
		{5, -2, -3, 5, -3},
		{5, 0, -3, 5, -3},
		{0, -2, 4, 4, -2},
		{far - 1, 1 - far, far, far, 1 - far},
		{far - 1, 1 - far, -far, far - 1, -far},
		{far, -far, far, far, -far},
		{far, -far, -far, far, -far},
	} {
		for _, y := range []int{-far, -10, 0, 10, far} {
			for _, spotOf := range []func(y, most, least int) spot.Spot{plain, held, spent, both} {
				s := spotOf(y, x.most, x.least)
				if got := s.With(x.margin); got != spotOf(y, x.wantMost, x.wantLeast) {
					t.Error(s, x.margin, got)
				}
			}
		}
	}
}

// P15.2: Y is At and the edge, whatever the edge's sign is; no margin is left, and it's neither held nor spent.
func TestFix(t *testing.T) {
	for _, x := range []struct {
		s          spot.Spot
		edge, want int
	}{
		{plain(10, 4, -1), 5, 18},
		{plain(10, 4, -1), 0, 13},
		{plain(10, 4, -1), -5, 8},
		{plain(10, 0, 0), 5, 15},
		{plain(10, 0, -30), 5, -15},
		{held(10, 4, -1), 5, 18},
		{held(10, 4, -1), 0, 13},
		{held(10, 4, -1), -5, 8},
		{held(10, 0, 0), 0, 10},
		{spent(10, 4, -1), 5, 15},
		{spent(10, 4, -1), 0, 10},
		{spent(10, 4, -1), -5, 5},
		{spent(10, 0, 0), 0, 10},
		{both(10, 4, -1), 5, 15},
		{both(10, 4, -1), 0, 10},
		{both(10, 4, -1), -5, 5},
		{plain(far, far, 0), far, 3 * far},
		{plain(-far, 0, -far), -far, -3 * far},
		{plain(far, 0, -far), far, far},
		{spent(far, far, 0), far, 2 * far},
		{spent(-far, 0, -far), -far, -2 * far},
	} {
		if got := x.s.Fix(x.edge); got != plain(x.want, 0, 0) {
			t.Error(x.s, x.edge, got)
		}
	}
}

// P15.2: a spent spot's Y goes back by what its strut came to ahead of the margin, and it's held then, and not spent.
func TestPassOfSpent(t *testing.T) {
	for _, x := range []struct{ y, most, least, margin, wantY, wantMost, wantLeast int }{
		{30, 0, 0, 0, 30, 0, 0},
		{30, 0, 0, 4, 30, 4, 0},
		{30, 0, 0, -4, 30, 0, -4},
		{30, 8, 0, 0, 22, 8, 0},
		{30, 8, 0, 12, 22, 12, 0},
		{30, 8, 0, 8, 22, 8, 0},
		{30, 8, 0, 5, 22, 8, 0},
		{30, 8, 0, -3, 22, 8, -3},
		{30, 0, -8, 0, 38, 0, -8},
		{30, 0, -8, -12, 38, 0, -12},
		{30, 0, -8, 5, 38, 5, -8},
		{30, 8, -3, 0, 25, 8, -3},
		{30, 8, -3, 10, 25, 10, -3},
		{30, 3, -8, -9, 35, 3, -9},
		{-30, 8, -3, 10, -35, 10, -3},
		{far, far, 0, -far, 0, far, -far},
		{-far, 0, -far, far, 0, far, -far},
		{far, 0, -far, -far, 2 * far, 0, -far},
		{-far, far, 0, far, -2 * far, far, 0},
		{far, far - 1, 1 - far, far, far, far, 1 - far},
	} {
		want := held(x.wantY, x.wantMost, x.wantLeast)
		if got := spent(x.y, x.most, x.least).Pass(x.margin); got != want {
			t.Error(x, got)
		}
		if got := both(x.y, x.most, x.least).Pass(x.margin); got != want {
			t.Error("held too", x, got)
		}
	}
}

// P15.2: a spot that isn't spent gets the margin alone: its Y stays, and it's held just if it was.
func TestPassOfOthers(t *testing.T) {
	for _, x := range []struct{ y, most, least, margin, wantMost, wantLeast int }{
		{30, 0, 0, 0, 0, 0},
		{30, 0, 0, 4, 4, 0},
		{30, 0, 0, -4, 0, -4},
		{30, 8, 0, 0, 8, 0},
		{30, 8, 0, 12, 12, 0},
		{30, 8, 0, 8, 8, 0},
		{30, 8, -3, -1, 8, -3},
		{30, 8, -3, -5, 8, -5},
		{-30, 0, -3, 5, 5, -3},
		{far, far, 0, -far, far, -far},
		{-far, 0, -far, far, far, -far},
	} {
		if got := plain(x.y, x.most, x.least).Pass(x.margin); got != plain(x.y, x.wantMost, x.wantLeast) {
			t.Error(x, got)
		}
		if got := held(x.y, x.most, x.least).Pass(x.margin); got != held(x.y, x.wantMost, x.wantLeast) {
			t.Error("held", x, got)
		}
	}
}

// P15.2: one call behind the other, in several orders, with where something would stand then.
func TestOneBehindTheOther(t *testing.T) {
	c := spot.Cleared(30, 5)
	for _, x := range []struct {
		name string
		got  spot.Spot
		want spot.Spot
		at   int
	}{
		{"With, With", c.With(8).With(-3), spent(30, 8, -3), 30},
		{"With, Pass", c.With(8).Pass(-3), held(22, 8, -3), 27},
		{"Pass, With", c.Pass(-3).With(8), held(25, 8, -3), 30},
		{"Pass, Pass", c.Pass(-3).Pass(8), held(25, 8, -3), 30},
		{"With, Pass, Pass", c.With(8).Pass(10).Pass(12), held(22, 12, 0), 34},
		{"With, Pass, With", c.With(8).Pass(10).With(-12), held(22, 10, -12), 20},
		{"Fix, With", c.Fix(2).With(8), plain(32, 8, 0), 40},
		{"Fix, Pass", c.Fix(2).Pass(8), plain(32, 8, 0), 40},
		{"Fix, Pass, Pass", c.Fix(2).Pass(8).Pass(-1), plain(32, 8, -1), 39},
		{"Pass, Fix", c.Pass(8).Fix(2), plain(35, 0, 0), 35},
		{"With, Fix", c.With(8).Fix(2), plain(32, 0, 0), 32},
		{"With, Pass, Fix", c.With(8).Pass(9).Fix(-2), plain(29, 0, 0), 29},
		{"Pass, With, Fix, With", c.Pass(6).With(7).Fix(0).With(4), plain(32, 4, 0), 36},
		{"Pass, Fix, Pass", c.Pass(6).Fix(1).Pass(4), plain(32, 4, 0), 36},
		{"Fix, Fix", c.Fix(2).Fix(3), plain(35, 0, 0), 35},
		{"Below, Pass, Pass", spot.Below(10, 4).Pass(6).Pass(-2), plain(10, 6, -2), 14},
		{"Below, With, Fix, Pass", spot.Below(10, 4).With(9).Fix(2).Pass(-3), plain(21, 0, -3), 18},
	} {
		if x.got != x.want || x.got.At() != x.at {
			t.Error(x.name, x.got, x.got.At())
		}
	}
}

// P15.2: of any spots at all, each number of each answer; and Pass of a margin of 0 moves nothing, if the strut is right.
func TestOfAnySpot(t *testing.T) {
	for _, s := range spots() {
		sum := s.Strut.Most + s.Strut.Least
		at, y := s.Y+sum, s.Y
		if s.Spent {
			at, y = s.Y, s.Y-sum
		}
		if s.At() != at || s.Strut.Right() && s.Pass(0).At() != at {
			t.Fatal(s, s.At(), s.Pass(0).At())
		}
		for _, n := range ends {
			more := strut.Strut{Most: max(s.Strut.Most, n), Least: min(s.Strut.Least, n)}
			if got := s.With(n); got != (spot.Spot{Y: s.Y, Strut: more, Held: s.Held, Spent: s.Spent}) {
				t.Fatal("With", s, n, got)
			}
			if got := s.Fix(n); got != plain(at+n, 0, 0) {
				t.Fatal("Fix", s, n, got)
			}
			if got := s.Pass(n); got != (spot.Spot{Y: y, Strut: more, Held: s.Held || s.Spent}) {
				t.Fatal("Pass", s, n, got)
			}
		}
	}
}

// K4, K5: the spot that is asked stays as it was, and answers the same again.
func TestSpotStays(t *testing.T) {
	for _, s := range []spot.Spot{{}, plain(10, 4, -1), held(10, 4, -1), spent(10, 4, -1), both(10, 4, -1)} {
		was, at := s, s.At()
		with, fix, pass := s.With(9), s.Fix(9), s.Pass(9)
		if s != was || s.At() != at {
			t.Error(was, s)
		}
		if s.With(9) != with || s.Fix(9) != fix || s.Pass(9) != pass || s != was {
			t.Error(was, s, with, fix, pass)
		}
	}
}
