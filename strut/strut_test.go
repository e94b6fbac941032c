package strut_test

import (
	"slices"
	"testing"

	"runaround/strut"
)

// far is the greatest number that the chapter allows; -far is the least one.
const far = 1 << 60

// ends has both ends of what is allowed, and a few numbers between them.
var ends = []int{-far, 1 - far, -7, -3, -1, 0, 1, 2, 7, far - 1, far}

// struts has struts of all these numbers, right ones and others.
func struts() []strut.Strut {
	var all []strut.Strut
	for _, most := range ends {
		for _, least := range ends {
			all = append(all, strut.Strut{Most: most, Least: least})
		}
	}
	return all
}

// most tells by the Words alone what a strut of margins has as Most.
func most(margins []int) int {
	found := 0
	for _, m := range margins {
		if m > 0 && m > found {
			found = m
		}
	}
	return found
}

// least tells by the Words alone what a strut of margins has as Least.
func least(margins []int) int {
	found := 0
	for _, m := range margins {
		if m < 0 && m < found {
			found = m
		}
	}
	return found
}

// P3.1: a Strut has just these fields, in this order, and the zero one is that of none.
func TestStrutFields(t *testing.T) {
	s := strut.Strut{5, -2}
	if s.Most != 5 || s.Least != -2 || s != (strut.Strut{Most: 5, Least: -2}) || s == (strut.Strut{}) {
		t.Error(s)
	}
}

// P3.1: example 1.
func TestExample(t *testing.T) {
	if got := strut.Of(10, -3, 4); got != (strut.Strut{Most: 10, Least: -3}) || got.Sum() != 7 {
		t.Error(got, got.Sum())
	}
}

// P3.1: no margins, margins of 0, of one sign and of both, in several orders, twice the same, and at both ends.
func TestOf(t *testing.T) {
	for _, x := range []struct {
		margins          []int
		most, least, sum int
	}{
		{nil, 0, 0, 0},
		{[]int{}, 0, 0, 0},
		{[]int{0}, 0, 0, 0},
		{[]int{0, 0, 0}, 0, 0, 0},
		{[]int{5}, 5, 0, 5},
		{[]int{1}, 1, 0, 1},
		{[]int{-5}, 0, -5, -5},
		{[]int{-1}, 0, -1, -1},
		{[]int{5, 7, 3}, 7, 0, 7},
		{[]int{3, 5, 7}, 7, 0, 7},
		{[]int{7, 5, 3}, 7, 0, 7},
		{[]int{7, 7}, 7, 0, 7},
		{[]int{-5, -7, -3}, 0, -7, -7},
		{[]int{-3, -5, -7}, 0, -7, -7},
		{[]int{-7, -5, -3}, 0, -7, -7},
		{[]int{-7, -7}, 0, -7, -7},
		{[]int{10, -3, 4, -8}, 10, -8, 2},
		{[]int{-8, 4, -3, 10}, 10, -8, 2},
		{[]int{4, 10, -8, -3}, 10, -8, 2},
		{[]int{10, -8, 10, -8}, 10, -8, 2},
		{[]int{3, -10}, 3, -10, -7},
		{[]int{6, -6}, 6, -6, 0},
		{[]int{0, 4, 0}, 4, 0, 4},
		{[]int{0, -4, 0}, 0, -4, -4},
		{[]int{far}, far, 0, far},
		{[]int{-far}, 0, -far, -far},
		{[]int{far, -far}, far, -far, 0},
		{[]int{-far, far}, far, -far, 0},
		{[]int{far, far - 1, 1 - far}, far, 1 - far, 1},
		{[]int{-far, far - 1, 1 - far}, far - 1, -far, -1},
		{[]int{far, far, far, far, far, far, far, far}, far, 0, far},
		{[]int{-far, -far, -far, -far, -far, -far, -far, -far}, 0, -far, -far},
	} {
		s := strut.Of(x.margins...)
		if s != (strut.Strut{Most: x.most, Least: x.least}) || s.Sum() != x.sum || !s.Right() {
			t.Error(x, s, s.Sum(), s.Right())
		}
	}
	if s := strut.Of(); s != (strut.Strut{}) || s.Sum() != 0 || !s.Right() {
		t.Error(s)
	}
}

// P3.1: of each three ends, against the Words; and it is the same whether margins come at once, one by one, or in two parts.
func TestOfWithAndJoinAgree(t *testing.T) {
	for _, a := range ends {
		for _, b := range ends {
			for _, c := range ends {
				margins := []int{a, b, c}
				want := strut.Strut{Most: most(margins), Least: least(margins)}
				at := strut.Of(margins...)
				by := strut.Strut{}.With(a).With(b).With(c)
				parts := strut.Of(a).Join(strut.Of(b, c))
				if at != want || by != want || parts != want || !want.Right() {
					t.Fatal(margins, want, at, by, parts)
				}
			}
		}
	}
}

// K5: what is handed in stays as it is.
func TestOfLeavesItsList(t *testing.T) {
	margins := []int{4, -9, 0, 7, -2}
	strut.Of(margins...)
	if !slices.Equal(margins, []int{4, -9, 0, 7, -2}) {
		t.Error(margins)
	}
}

// P3.1: a greater Most, a lesser Least, neither, and both where the strut isn't right.
func TestWith(t *testing.T) {
	for _, x := range []struct {
		s      strut.Strut
		margin int
		want   strut.Strut
	}{
		{strut.Strut{}, 0, strut.Strut{}},
		{strut.Strut{}, 3, strut.Strut{Most: 3}},
		{strut.Strut{}, -3, strut.Strut{Least: -3}},
		{strut.Strut{Most: 5, Least: -5}, 4, strut.Strut{Most: 5, Least: -5}},
		{strut.Strut{Most: 5, Least: -5}, 5, strut.Strut{Most: 5, Least: -5}},
		{strut.Strut{Most: 5, Least: -5}, 6, strut.Strut{Most: 6, Least: -5}},
		{strut.Strut{Most: 5, Least: -5}, -4, strut.Strut{Most: 5, Least: -5}},
		{strut.Strut{Most: 5, Least: -5}, -5, strut.Strut{Most: 5, Least: -5}},
		{strut.Strut{Most: 5, Least: -5}, -6, strut.Strut{Most: 5, Least: -6}},
		{strut.Strut{Most: 5, Least: -5}, 0, strut.Strut{Most: 5, Least: -5}},
		{strut.Strut{Most: -5, Least: 5}, 1, strut.Strut{Most: 1, Least: 1}},
		{strut.Strut{Most: -5, Least: 5}, 0, strut.Strut{}},
		{strut.Strut{Most: -5, Least: 5}, -2, strut.Strut{Most: -2, Least: -2}},
		{strut.Strut{Most: -5, Least: 5}, 9, strut.Strut{Most: 9, Least: 5}},
		{strut.Strut{Most: -5, Least: 5}, -9, strut.Strut{Most: -5, Least: -9}},
		{strut.Strut{Most: -5}, -3, strut.Strut{Most: -3, Least: -3}},
		{strut.Strut{Most: -5, Least: -9}, -7, strut.Strut{Most: -5, Least: -9}},
		{strut.Strut{Most: 9, Least: 5}, 7, strut.Strut{Most: 9, Least: 5}},
		{strut.Strut{Least: 5}, 3, strut.Strut{Most: 3, Least: 3}},
		{strut.Strut{Most: -far, Least: far}, far, strut.Strut{Most: far, Least: far}},
		{strut.Strut{Most: -far, Least: far}, -far, strut.Strut{Most: -far, Least: -far}},
		{strut.Strut{Most: far, Least: -far}, far, strut.Strut{Most: far, Least: -far}},
		{strut.Strut{Most: far - 1, Least: 1 - far}, far, strut.Strut{Most: far, Least: 1 - far}},
		{strut.Strut{Most: far - 1, Least: 1 - far}, -far, strut.Strut{Most: far - 1, Least: -far}},
	} {
		if got := x.s.With(x.margin); got != x.want {
			t.Error(x, got)
		}
	}
}

// P3.1: of any strut, and any margin, each end is the margin just if that lies beyond it.
func TestWithOfAnyStrut(t *testing.T) {
	for _, s := range struts() {
		for _, margin := range ends {
			want := s
			if margin > s.Most {
				want.Most = margin
			}
			if margin < s.Least {
				want.Least = margin
			}
			if got := s.With(margin); got != want {
				t.Fatal(s, margin, got)
			}
		}
	}
}

// P3.1: the greater Most and the lesser Least, of right struts and of others, either way round.
func TestJoin(t *testing.T) {
	for _, x := range []struct{ s, u, want strut.Strut }{
		{strut.Strut{}, strut.Strut{}, strut.Strut{}},
		{strut.Strut{Most: 4, Least: -2}, strut.Strut{}, strut.Strut{Most: 4, Least: -2}},
		{strut.Strut{Most: 4, Least: -2}, strut.Strut{Most: 9, Least: -1}, strut.Strut{Most: 9, Least: -2}},
		{strut.Strut{Most: 4, Least: -2}, strut.Strut{Most: 3, Least: -1}, strut.Strut{Most: 4, Least: -2}},
		{strut.Strut{Most: 4, Least: -2}, strut.Strut{Most: 4, Least: -2}, strut.Strut{Most: 4, Least: -2}},
		{strut.Strut{Most: -5, Least: 5}, strut.Strut{}, strut.Strut{}},
		{strut.Strut{Most: -5, Least: 5}, strut.Strut{Most: -3, Least: 7}, strut.Strut{Most: -3, Least: 5}},
		{strut.Strut{Most: -5, Least: 5}, strut.Strut{Most: 2, Least: -2}, strut.Strut{Most: 2, Least: -2}},
		{strut.Strut{Most: -5, Least: -9}, strut.Strut{Most: -6, Least: -8}, strut.Strut{Most: -5, Least: -9}},
		{strut.Strut{Most: 9, Least: 5}, strut.Strut{Most: 8, Least: 6}, strut.Strut{Most: 9, Least: 5}},
		{strut.Strut{Most: far}, strut.Strut{Least: -far}, strut.Strut{Most: far, Least: -far}},
		{strut.Strut{Most: far, Least: far}, strut.Strut{Most: -far, Least: -far}, strut.Strut{Most: far, Least: -far}},
		{strut.Strut{Most: -far, Least: far}, strut.Strut{}, strut.Strut{}},
		{strut.Strut{Most: -far, Least: far}, strut.Strut{Most: -far, Least: far}, strut.Strut{Most: -far, Least: far}},
	} {
		if x.s.Join(x.u) != x.want || x.u.Join(x.s) != x.want {
			t.Error(x, x.s.Join(x.u), x.u.Join(x.s))
		}
	}
}

// P3.1: of each two struts; and the zero Strut leaves just a right one as it is.
func TestJoinOfAnyStruts(t *testing.T) {
	for _, s := range struts() {
		for _, u := range struts() {
			want := s
			if u.Most > s.Most {
				want.Most = u.Most
			}
			if u.Least < s.Least {
				want.Least = u.Least
			}
			if got := s.Join(u); got != want {
				t.Fatal(s, u, got)
			}
		}
		none := strut.Strut{}
		if (s.Join(none) == s) != s.Right() || (none.Join(s) == s) != s.Right() {
			t.Error(s, s.Join(none), none.Join(s))
		}
	}
}

// P3.1: both ends added, and whether they lie as those of margins do, of right struts and of others.
func TestSumAndRight(t *testing.T) {
	for _, x := range []struct {
		most, least, sum int
		right            bool
	}{
		{0, 0, 0, true},
		{5, 0, 5, true},
		{0, -5, -5, true},
		{10, -3, 7, true},
		{3, -10, -7, true},
		{1, -1, 0, true},
		{-1, 0, -1, false},
		{0, 1, 1, false},
		{-1, 1, 0, false},
		{-1, -4, -5, false},
		{4, 1, 5, false},
		{-5, 3, -2, false},
		{far, 0, far, true},
		{0, -far, -far, true},
		{far, -far, 0, true},
		{far, 1 - far, 1, true},
		{far, far, 2 * far, false},
		{-far, -far, -2 * far, false},
		{-far, far, 0, false},
		{-far, 0, -far, false},
		{0, far, far, false},
	} {
		s := strut.Strut{Most: x.most, Least: x.least}
		if s.Sum() != x.sum || s.Right() != x.right {
			t.Error(x, s.Sum(), s.Right())
		}
	}
}
