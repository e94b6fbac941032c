package spot_test

import (
	"testing"

	"runaround/spot"
	"runaround/strut"
)

// model is a spot told by the chapter's words alone, with its margins in a list.
type model struct {
	y           int
	margins     []int
	held, spent bool
}

// sum tells what margins come to: the greatest one above 0 and the least one below 0, together.
func sum(margins []int) int {
	most, least := 0, 0
	for _, m := range margins {
		if m > most {
			most = m
		}
		if m < least {
			least = m
		}
	}
	return most + least
}

// and gives a list of its own with a margin more.
func and(margins []int, margin int) []int {
	return append(append([]int{}, margins...), margin)
}

// at tells where something stands.
func (m model) at() int {
	if m.spent {
		return m.y
	}
	return m.y + sum(m.margins)
}

// with gives the model with a margin more.
func (m model) with(n int) model { return model{m.y, and(m.margins, n), m.held, m.spent} }

// fix gives the model where something stands.
func (m model) fix(n int) model { return model{y: m.at() + n} }

// pass gives the model behind a box in which nothing stands.
func (m model) pass(n int) model {
	if !m.spent {
		return m.with(n)
	}
	return model{y: m.y - sum(m.margins), margins: and(m.margins, n), held: true}
}

// spot gives the spot that is asked.
func (m model) spot() spot.Spot {
	return spot.Spot{Y: m.y, Strut: strut.Of(m.margins...), Held: m.held, Spent: m.spent}
}

// after goes on from a spot and its model with all calls one behind the other, and tells how many pairs were held
// against each other.
func after(t *testing.T, s spot.Spot, m model, calls int) int {
	if s != m.spot() || s.At() != m.at() {
		t.Fatal(s, s.At(), "not", m, m.at())
	}
	if calls == 0 {
		return 1
	}
	pairs := 1
	for _, n := range []int{-4, 0, 3, 7} {
		pairs += after(t, s.With(n), m.with(n), calls-1)
		pairs += after(t, s.Fix(n), m.fix(n), calls-1)
		pairs += after(t, s.Pass(n), m.pass(n), calls-1)
	}
	return pairs
}

// P15.1, P15.2: all calls in all orders, up to four behind each other, from spots of both kinds on.
func TestModel(t *testing.T) {
	for _, y := range []int{-20, 0, 30} {
		for _, n := range []int{-6, 0, 5} {
			below := after(t, spot.Below(y, n), model{y: y, margins: []int{n}}, 4)
			cleared := after(t, spot.Cleared(y, n), model{y: y, margins: []int{n}, spent: true}, 4)
			if below != 22621 || cleared != 22621 {
				t.Error(y, n, below, cleared)
			}
		}
	}
}
