package walk_test

import (
	"iter"
	"slices"
	"testing"

	"runaround/api"
	"runaround/walk"
)

// small gives lists of which each walk may be gone through from each of its events.
func small() [][]api.Box {
	const block, float, root, text, atom = api.Block, api.Float, api.Root, api.Text, api.Atom
	return [][]api.Box{
		listed(0, root),
		listed(0, root, 1, block),
		listed(0, root, 1, text, 2, atom, 2, float, 3, block, 2, atom, 1, root, 2, block, 3, float),
		listed(0, root, 1, float, 2, float, 3, block, 4, text, 1, block, 2, root, 3, root, 2, block),
		chain(6, block, float),
		flat(7, float, block),
		grown(5, 14, false),
		grown(6, 14, true),
	}
}

// eachWalk does something with each walk of small lists, and with the events that it should have.
func eachWalk(t *testing.T, do func(value iter.Seq[walk.Event], want []walk.Event)) {
	t.Helper()
	for _, l := range small() {
		x, values, want := walks(t, l)
		for i, value := range values {
			do(value, want[i])
		}
		for _, at := range others(len(l)) {
			do(walk.Context(x, at), nil)
		}
	}
}

// P7.1: as often as one likes.
func TestAgain(t *testing.T) {
	eachWalk(t, func(value iter.Seq[walk.Event], want []walk.Event) {
		for range 3 {
			same(t, value, want)
		}
	})
}

// P7.1: a walk within one of the same value, from each event on, is whole, and so is the one around it.
func TestOneWithinTheOther(t *testing.T) {
	eachWalk(t, func(value iter.Seq[walk.Event], want []walk.Event) {
		var events []walk.Event
		for e := range value {
			events = append(events, e)
			same(t, value, want)
		}
		if !slices.Equal(events, want) {
			t.Error(events, want)
		}
	})
}

// P7.1: two walks of one value, of which each goes on by turns, from each event of the one on.
func TestOneBesideTheOther(t *testing.T) {
	eachWalk(t, func(value iter.Seq[walk.Event], want []walk.Event) {
		for ahead := range len(want) + 1 {
			next, stop := iter.Pull(value)
			var events, beside []walk.Event
			for range ahead {
				e, _ := next()
				events = append(events, e)
			}
			for e := range value {
				beside = append(beside, e)
				if e, more := next(); more {
					events = append(events, e)
				}
			}
			if e, more := next(); more || !slices.Equal(events, want) || !slices.Equal(beside, want) {
				t.Error(ahead, e, events, beside, want)
			}
			stop()
		}
	})
}

// P7.1: ended early at each of its events; then nothing more is told, and the next one is whole.
func TestEndedEarly(t *testing.T) {
	eachWalk(t, func(value iter.Seq[walk.Event], want []walk.Event) {
		for last := range want {
			var events []walk.Event
			for e := range value {
				events = append(events, e)
				if len(events) == last+1 {
					break
				}
			}
			if !slices.Equal(events, want[:last+1]) {
				t.Error(last, events, want)
			}
			same(t, value, want)
		}
	})
}

// P7.1: who has wanted no more isn't told more.
func TestNoMoreIsNoMore(t *testing.T) {
	eachWalk(t, func(value iter.Seq[walk.Event], want []walk.Event) {
		for last := range want {
			told := 0
			value(func(walk.Event) bool {
				told++
				return told <= last
			})
			if told != last+1 {
				t.Error(told, last, want)
			}
			same(t, value, want)
		}
	})
}

// P7.1: ended ahead of the first event, and ahead of each other one.
func TestEndedAhead(t *testing.T) {
	eachWalk(t, func(value iter.Seq[walk.Event], want []walk.Event) {
		for ahead := range len(want) + 1 {
			next, stop := iter.Pull(value)
			for n := range ahead {
				if e, more := next(); !more || e != want[n] {
					t.Error(n, e, more, want)
				}
			}
			stop()
			if e, more := next(); more {
				t.Error(ahead, e, want)
			}
			same(t, value, want)
		}
	})
}

// P7.1: ended early within a walk that is ended early itself.
func TestBothEndedEarly(t *testing.T) {
	eachWalk(t, func(value iter.Seq[walk.Event], want []walk.Event) {
		for last := range want {
			var around, inner []walk.Event
		outer:
			for e := range value {
				around = append(around, e)
				inner = nil
				for e := range value {
					inner = append(inner, e)
					if len(around) == last+1 && len(inner) == last+1 {
						break outer
					}
				}
			}
			if !slices.Equal(around, want[:last+1]) || !slices.Equal(inner, want[:last+1]) {
				t.Error(last, around, inner, want)
			}
			same(t, value, want)
		}
	})
}
