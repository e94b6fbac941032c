package ahead_test

import (
	"slices"
	"testing"

	"runaround/ahead"
	"runaround/api"
	"runaround/space"
	"runaround/spot"
	"runaround/strut"
	"runaround/tree"
)

// model looks in the chapter's words, through a list of boxes, with its margins and the space's floats in lists.
type model struct {
	boxes  []api.Box
	floats []space.Float
	fates  *fates
}

// seen is a look of the model's.
type seen struct {
	y                  int
	margins            []int
	held, spent, ended bool
	left, right        bool
}

// fates counts what became of looks.
type fates struct{ edge, foot, height, atom, root, kept, sides, floats, below, past, lost int }

// with gives a look with a margin more.
func (s seen) with(margin int) seen {
	s.margins = append(slices.Clone(s.margins), margin)
	return s
}

// end gives a look that has ended, and counts why.
func (s seen) end(why *int) seen {
	*why++
	s.ended = true
	return s
}

// at tells where a look's spot is.
func (s seen) at() int {
	if s.spent || len(s.margins) == 0 {
		return s.y
	}
	return s.y + max(0, slices.Max(s.margins)) + min(0, slices.Min(s.margins))
}

// meets tells whether what is cleared is one of a look's sides.
func (s seen) meets(clear int) bool {
	return s.left && (clear == api.Left || clear == api.Both) || s.right && (clear == api.Right || clear == api.Both)
}

// look gives what layer 16 should answer.
func (s seen) look() ahead.Look {
	sides := api.None
	switch {
	case s.left && s.right:
		sides = api.Both
	case s.left:
		sides = api.Left
	case s.right:
		sides = api.Right
	}
	return ahead.Look{Spot: spot.Spot{Y: s.y, Strut: strut.Of(s.margins...), Held: s.held, Spent: s.spent}, Sides: sides, Ended: s.ended}
}

// flows tells whether a place is one of a Block or a Text.
func (m model) flows(at int) bool {
	return at >= 0 && at < len(m.boxes) && (m.boxes[at].Kind == api.Block || m.boxes[at].Kind == api.Text)
}

// into looks into a box.
func (m model) into(at int, s seen) seen {
	b := m.boxes[at]
	s = s.with(b.Margins[0])
	if b.Edges[0] > 0 {
		return s.end(&m.fates.edge)
	}
	for child := at + 1; child < len(m.boxes) && m.boxes[child].Depth > b.Depth && !s.ended; child++ {
		if m.boxes[child].Depth == b.Depth+1 {
			s = m.one(child, s)
		}
	}
	if !s.ended && b.Edges[2] > 0 {
		s = s.end(&m.fates.foot)
	}
	if !s.ended && b.Height != api.Auto {
		s = s.end(&m.fates.height)
	}
	return s
}

// one looks at a box that stands in one.
func (m model) one(at int, s seen) seen {
	b := m.boxes[at]
	switch b.Kind {
	case api.Float:
		s.left = s.left || b.Side == api.Left
		s.right = s.right || b.Side == api.Right
	case api.Atom:
		s = s.end(&m.fates.atom)
	case api.Root:
		if s.meets(b.Clear) {
			return s.end(&m.fates.kept)
		}
		s = s.with(b.Margins[0]).end(&m.fates.root)
	default:
		s = m.past(at, s)
	}
	return s
}

// past looks past a box.
func (m model) past(at int, s seen) seen {
	b := m.boxes[at]
	if s.meets(b.Clear) {
		return s.end(&m.fates.sides)
	}
	inner := m.into(at, s)
	for _, f := range m.floats {
		if (b.Clear == api.Both || b.Clear == f.Side) && inner.at() < f.Box.Bottom {
			if inner.left != s.left || inner.right != s.right {
				m.fates.lost++
			}
			return s.end(&m.fates.floats)
		}
	}
	for _, f := range m.floats {
		if b.Clear == api.Both || b.Clear == f.Side {
			m.fates.below++
			break
		}
	}
	if inner.ended {
		return inner
	}
	m.fates.past++
	return inner.with(b.Margins[2])
}

// seenOf gives the model's look that is one of the layer's.
func seenOf(l ahead.Look) seen {
	return seen{
		y: l.Spot.Y, margins: []int{l.Spot.Strut.Most, l.Spot.Strut.Least}, held: l.Spot.Held, spent: l.Spot.Spent,
		ended: l.Ended, left: l.Sides == api.Left || l.Sides == api.Both, right: l.Sides == api.Right || l.Sides == api.Both,
	}
}

// agrees tells it if a look through boxes, from any of their places, comes to something else than the chapter says.
func agrees(t *testing.T, boxes []api.Box, floats []space.Float, from ahead.Look, f *fates) {
	t.Helper()
	x, at, e := tree.Build(boxes)
	if e != api.OK {
		t.Fatal(boxes, at, e)
	}
	s := space.New()
	for _, f := range floats {
		s.Put(f.Side, f.Box)
	}
	m := model{boxes: boxes, floats: floats, fates: f}
	for at := -1; at <= len(boxes); at++ {
		into, past := from, from
		if m.flows(at) && !from.Ended {
			into, past = m.into(at, seenOf(from)).look(), m.past(at, seenOf(from)).look()
		}
		looks(t, x, s, at, from, into, past)
	}
	if t.Failed() {
		t.Fatal(boxes, floats, from)
	}
}

// few gives a few boxes.
func few() []api.Box {
	return []api.Box{
		block(0, 2, -1), block(0, -3, 4), text(0, 3, 2), clearing(api.Left, block(0, 3, 1)), clearing(api.Both, text(0, 1, 5)),
		edged(1, 0, block(0, 1, 6)), edged(0, 1, block(0, 4, 6)), high(0, clearing(api.Right, block(0, 5, 1))),
		float(0, api.Left), float(0, api.Right), root(0, 5), clearing(api.Left, root(0, -5)), atom(0),
	}
}

// All trees of a Block with up to three of a few boxes in it, beside floats of either side.
func TestAllOfAFew(t *testing.T) {
	f := &fates{}
	spaces := [][]space.Float{
		nil,
		{{Side: api.Left, Box: api.Rect{Left: 0, Top: 0, Right: 4, Bottom: 14}}},
		{{Side: api.Right, Box: api.Rect{Left: 6, Top: 3, Right: 9, Bottom: 15}}, {Side: api.Left, Box: api.Rect{Left: 0, Top: 4, Right: 4, Bottom: 13}}},
	}
	var add func(l []api.Box)
	add = func(l []api.Box) {
		if _, _, e := tree.Build(l); e != api.OK {
			return
		}
		for _, floats := range spaces {
			agrees(t, l, floats, open(10, 0), f)
		}
		agrees(t, l, spaces[2], spent(open(13, api.Right, 1)), f)
		if len(l) == 5 {
			return
		}
		for _, b := range few() {
			for depth := 2; depth <= l[len(l)-1].Depth+1; depth++ {
				b.Depth = depth
				add(append(slices.Clone(l), b))
			}
		}
	}
	add(page(block(1, 1, 7)))
	counted(t, f)
}

// counted tells it if of a fate there aren't many.
func counted(t *testing.T, f *fates) {
	t.Helper()
	if min(f.edge, f.foot, f.height, f.atom, f.root, f.kept, f.sides, f.floats, f.below, f.past, f.lost) < 500 {
		t.Errorf("%+v", *f)
	}
}

// chosen gives numbers by a rule of its own.
type chosen uint64

// to gives one from 0 to n, without n.
func (c *chosen) to(n int) int {
	*c = *c*6364136223846793005 + 1442695040888963407
	return int(*c>>34) % n
}

// box gives a box that may stand behind one of this depth, or may not. Most of them end no look.
func (c *chosen) box(last int) api.Box {
	depth := max(2, last+1-c.to(4)*c.to(2))
	switch c.to(10) {
	case 0:
		return float(depth, 1+c.to(2))
	case 1:
		return atom(depth)
	case 2:
		return clearing(c.to(4), root(depth, c.to(30)-10))
	}
	b := flowing(depth, []int{api.Block, api.Block, api.Text}[c.to(3)], c.to(30)-10, c.to(30)-10)
	if c.to(3) == 0 {
		b.Clear = c.to(4)
	}
	switch c.to(24) {
	case 0:
		b.Edges[0] = 1 + c.to(3)
	case 1:
		b.Edges[2] = 1 + c.to(3)
	case 2:
		b.Height = c.to(2)
	}
	return b
}

// boxes gives a tree of so many boxes.
func (c *chosen) boxes(n int) []api.Box {
	l := page(block(1, c.to(9)-3, c.to(9)-3))
	for len(l) < n {
		longer := append(l, c.box(l[len(l)-1].Depth))
		if _, _, e := tree.Build(longer); e == api.OK {
			l = longer
		}
	}
	return l
}

// floats gives up to three floats, which end near where looks come to.
func (c *chosen) floats() []space.Float {
	var l []space.Float
	for range c.to(4) {
		top := c.to(30) - 10
		l = append(l, space.Float{Side: 1 + c.to(2), Box: api.Rect{Left: 0, Top: top, Right: c.to(5), Bottom: top + c.to(20) - 2}})
	}
	return l
}

// from gives any look that hasn't ended; a few have.
func (c *chosen) from() ahead.Look {
	l := open(c.to(20)-5, c.to(8)/2, c.to(20)-8, c.to(9)-4)
	if c.to(2) == 0 {
		l.Sides = api.None
	}
	l.Spot.Held, l.Spot.Spent, l.Ended = c.to(4) == 0, c.to(4) == 0, c.to(20) == 0
	return l
}

// Trees, spaces and looks of all kinds; and of each of their fates there are many.
func TestOfManyTrees(t *testing.T) {
	f := &fates{}
	for seed := range 4000 {
		c := chosen(seed)
		agrees(t, c.boxes(3+c.to(40)), c.floats(), c.from(), f)
	}
	counted(t, f)
}

// K6: looks through several trees, beside several spaces, taken in turn, have nothing to do with each other.
func TestLooksStandApart(t *testing.T) {
	c := chosen(5)
	f := &fates{}
	one, other := c.boxes(30), c.boxes(30)
	near, low := c.floats(), []space.Float{{Side: api.Left, Box: api.Rect{Left: 0, Top: 0, Right: 4, Bottom: 600}}}
	for range 60 {
		from := c.from()
		agrees(t, one, near, from, f)
		agrees(t, other, low, from, f)
		agrees(t, one, low, from, f)
		agrees(t, other, near, from, f)
	}
}
