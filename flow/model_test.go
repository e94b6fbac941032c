package flow_test

import (
	"slices"

	"runaround/api"
	"runaround/flow"
	"runaround/line"
	"runaround/rect"
	"runaround/tree"
)

// model lays a context in the chapter's words: box in box, with its floats, and the spot's margins, in lists.
type model struct {
	world
	flow.Input
	spot
	waits  []wait
	around []*flowing
	boxes  map[int]api.Rect
	flows  []*flowing
	lines  []flow.Line
	fates  *fates
}

// spot is the spot, as layer 15 has it.
type spot struct {
	y           int
	margins     []int
	held, spent bool
}

// at tells where what comes stands.
func (s spot) at() int {
	if s.spent {
		return s.y
	}
	return s.y + sum(s.margins)
}

// with gives the spot with a margin more.
func (s spot) with(margin int) spot {
	s.margins = append(slices.Clone(s.margins), margin)
	return s
}

// sum gives what margins that adjoin come to.
func sum(margins []int) int {
	if len(margins) == 0 {
		return 0
	}
	return max(0, slices.Max(margins)) + min(0, slices.Min(margins))
}

// flowing is a Block or a Text.
type flowing struct {
	at, top, bottom int
	loose, moved    bool
}

// wait is what waits: a Float, or a box.
type wait struct {
	float int
	box   *flowing
}

// fates counts what became of boxes.
type fates struct {
	waits, placed                                 int // Floats
	sides, moved, kept, edge                      int // what is entered
	stands, stays, idle, left, passed             int // what is left, and nothing stands in it
	high, foot, held, through, over               int // what is left, and something stands in it
	rootClears, rootSides, beside, below, outside int // Roots
	first, texts, ahead, behind, lines, many      int // Texts
}

// count counts one fate more, if it is so.
func count(n *int, so bool) bool {
	if so {
		*n++
	}
	return so
}

// within gives the boxes that stand in one.
func within(t *tree.Tree, at int) []int {
	var l []int
	for child := at + 1; child < t.Len() && t.Box(child).Depth > t.Box(at).Depth; child++ {
		if t.Box(child).Depth == t.Box(at).Depth+1 {
			l = append(l, child)
		}
	}
	return l
}

// modelled gives what layer 17 should answer.
func modelled(in flow.Input, at int, f *fates) flow.Output {
	if at < 0 || at >= in.Tree.Len() || in.Tree.Box(at).Kind != api.Float && in.Tree.Box(at).Kind != api.Root {
		return flow.Output{}
	}
	m := &model{Input: in, boxes: map[int]api.Rect{}, fates: f}
	for _, child := range within(in.Tree, at) {
		m.one(child)
	}
	return m.output()
}

// output gives all that was laid.
func (m *model) output() flow.Output {
	for _, k := range m.flows {
		b, columns := m.Tree.Box(k.at), m.Frames[k.at]
		m.boxes[k.at] = box(columns.From-b.Edges[3], k.top, columns.To+b.Edges[1], k.bottom)
	}
	out := flow.Output{Lines: m.lines, Height: m.clear(api.Both, max(0, m.spot.at()))}
	for at := range m.Tree.Len() {
		if b, ok := m.boxes[at]; ok {
			out.Boxes = append(out.Boxes, flow.Placed{At: at, Box: b})
		}
	}
	return out
}

// one lays a box that isn't an Atom.
func (m *model) one(at int) {
	switch m.Tree.Box(at).Kind {
	case api.Float:
		m.float(at)
	case api.Root:
		m.root(at)
	default:
		m.flowing(at)
	}
}

// loose tells whether the box in which the next thing stands is loose.
func (m *model) loose() bool { return len(m.around) > 0 && m.around[len(m.around)-1].loose }

// settle settles all.
func (m *model) settle(y int) {
	for _, w := range m.waits {
		if w.box == nil {
			m.place(w.float, y)
			continue
		}
		w.box.top, w.box.bottom, w.box.loose = y, y, false
	}
	for _, k := range m.around {
		if k.loose {
			k.top, k.loose = y, false
		}
	}
	m.waits = nil
}

// stand lets something stand.
func (m *model) stand(edge int) {
	y := m.spot.at()
	m.settle(y)
	m.spot = spot{y: y + edge}
}

// clears tells whether a box clears the sides of a Float that waits.
func (m *model) clears(at int) bool {
	return slices.ContainsFunc(m.waits, func(w wait) bool {
		return w.box == nil && floating{side: m.Tree.Box(w.float).Side}.cleared(m.Tree.Box(at).Clear)
	})
}

// flowing lays a Block or a Text, and all that stands in it.
func (m *model) flowing(at int) {
	k := &flowing{at: at}
	m.flows = append(m.flows, k)
	m.enter(k)
	m.around = append(m.around, k)
	if b := m.Tree.Box(at); count(&m.fates.edge, b.Edges[0] > 0) {
		m.stand(b.Edges[0])
	}
	children := within(m.Tree, at)
	for i, child := range children {
		if m.Tree.Box(child).Kind == api.Atom {
			m.text(at, i, children[i:])
			break
		}
		m.one(child)
	}
	m.leave(k)
}

// enter gives a box its top, if that is known.
func (m *model) enter(k *flowing) {
	b := m.Tree.Box(k.at)
	if count(&m.fates.sides, m.clears(k.at)) {
		m.stand(0)
	}
	if bottom, ok := m.bottom(b.Clear); ok && !count(&m.fates.kept, m.look().into(k.at).at() >= bottom) {
		m.fates.moved++
		m.stand(0)
		k.moved, k.top = true, bottom
		m.spot = spot{y: bottom, margins: []int{b.Margins[0]}, spent: true}
		return
	}
	k.loose = true
	m.spot = m.with(b.Margins[0])
}

// leave gives a box its bottom, if that is known.
func (m *model) leave(k *flowing) {
	b := m.Tree.Box(k.at)
	closes := b.Edges[2] > 0 || b.Height != api.Auto
	if closes && (count(&m.fates.stands, k.loose) || count(&m.fates.stays, k.moved && m.spent)) {
		m.stand(0)
	}
	m.around = m.around[:len(m.around)-1]
	switch {
	case k.loose && m.loose():
		m.fates.left++
		m.waits = append(m.waits, wait{box: k})
		m.spot = m.with(b.Margins[2])
	case k.loose:
		m.fates.idle++
		m.waits = append(m.waits, wait{box: k})
		m.settle(m.spot.at())
		m.spot = m.with(b.Margins[2])
	case k.moved && m.spent:
		m.fates.passed++
		k.bottom = k.top
		m.spot = spot{y: m.y - sum(m.margins), margins: append(slices.Clone(m.margins), b.Margins[2]), held: true}
	default:
		m.end(k)
	}
}

// end gives a box in which something stands its bottom.
func (m *model) end(k *flowing) {
	b := m.Tree.Box(k.at)
	top := k.top + b.Edges[0]
	switch {
	case b.Height != api.Auto:
		m.fates.high++
		k.bottom = top + b.Height + b.Edges[2]
	case b.Edges[2] > 0 || m.held:
		count(&m.fates.foot, b.Edges[2] > 0)
		count(&m.fates.held, b.Edges[2] == 0)
		count(&m.fates.over, m.spot.at() < top)
		k.bottom = max(top, m.spot.at()) + b.Edges[2]
	default:
		m.fates.through++
		count(&m.fates.over, m.y < top)
		k.bottom = max(top, m.y)
		m.spot = spot{y: k.bottom, margins: m.margins, held: m.held, spent: m.spent}.with(b.Margins[2])
		return
	}
	m.spot = spot{y: k.bottom, margins: []int{b.Margins[2]}}
}

// wanted gives a Float as it is to be placed, or an Atom's size.
func (m *model) wanted(at int) wanted {
	b, content := m.Tree.Box(at), m.Frames[at]
	height := b.Height
	if height == api.Auto {
		height = m.Heights[at]
	}
	return wanted{
		side: b.Side, clear: b.Clear, columns: m.Frames[m.Tree.Parent(at)],
		width:  content.To - content.From + b.Edges[1] + b.Edges[3] + b.Margins[1] + b.Margins[3],
		height: height + b.Edges[0] + b.Edges[2] + b.Margins[0] + b.Margins[2],
	}
}

// inside gives what is left of a margin box within its margins.
func (m *model) inside(at int, r api.Rect) api.Rect {
	by := m.Tree.Box(at).Margins
	return box(r.Left+by[3], r.Top+by[0], r.Right-by[1], r.Bottom-by[2])
}

// place places a Float from a height on.
func (m *model) place(at, y int) {
	f := m.wanted(at)
	r := m.find(f, y)
	m.put(f.side, r)
	m.boxes[at] = m.inside(at, r)
}

// float places a Float, or lets it wait.
func (m *model) float(at int) {
	if count(&m.fates.waits, m.loose()) {
		m.waits = append(m.waits, wait{float: at})
		return
	}
	m.fates.placed++
	m.place(at, m.spot.at())
}

// root lays a Root.
func (m *model) root(at int) {
	if count(&m.fates.rootSides, m.clears(at)) {
		m.stand(0)
	}
	b, f := m.Tree.Box(at), m.wanted(at)
	m.spot = m.with(b.Margins[0])
	m.stand(0)
	room := rect.Span{From: f.columns.From + b.Margins[3], To: f.columns.To - b.Margins[1]}
	width, height := f.width-b.Margins[1]-b.Margins[3], f.height-b.Margins[0]-b.Margins[2]
	from := m.clear(b.Clear, m.y)
	r := m.avoided(room, width, height, from)
	m.boxes[at] = r
	count(&m.fates.rootClears, from > m.y)
	count(&m.fates.beside, r.Left > room.From && r.Right <= room.To)
	count(&m.fates.below, r.Top > from)
	count(&m.fates.outside, r.Right > room.To)
	m.spot = spot{y: r.Bottom, margins: []int{b.Margins[2]}}
}

// text lays what stands in a Text from its first Atom on.
func (m *model) text(at, ahead int, behind []int) {
	count(&m.fates.first, ahead == 0)
	count(&m.fates.ahead, ahead > 0)
	m.stand(0)
	var items []item
	for _, child := range behind {
		items = append(items, item{at: child, float: m.Tree.Box(child).Kind == api.Float, wanted: m.wanted(child)})
	}
	count(&m.fates.behind, items[len(items)-1].float)
	l := &lining{world: &m.world, columns: m.Frames[at], y: m.y, boxes: map[int]api.Rect{}}
	l.lay(items)
	for child, b := range l.boxes {
		m.boxes[child] = m.inside(child, b)
	}
	m.lined(at, l.lines)
	m.spot = spot{y: l.y}
}

// lined keeps the lines of a Text.
func (m *model) lined(at int, l []line.Line) {
	m.fates.texts++
	m.fates.lines += len(l)
	count(&m.fates.many, len(l) > 2)
	for _, x := range l {
		m.lines = append(m.lines, flow.Line{At: at, Line: x})
	}
}

// look is a look as layer 16 has it: what it comes to as it goes on.
type look struct {
	spot
	*model
	left, right, ended bool
}

// look gives the look from the spot, and the sides of the Floats that wait, on.
func (m *model) look() look {
	l := look{spot: m.spot, model: m}
	for _, w := range m.waits {
		if w.box == nil {
			l = l.found(w.float)
		}
	}
	return l
}

// found gives a look that came by a Float.
func (l look) found(at int) look {
	l.left = l.left || l.Tree.Box(at).Side == api.Left
	l.right = l.right || l.Tree.Box(at).Side == api.Right
	return l
}

// at tells where the look's spot is.
func (l look) at() int { return l.spot.at() }

// on gives a look with a margin more.
func (l look) on(margin int) look {
	l.spot = l.spot.with(margin)
	return l
}

// meets tells whether what is cleared is one of the look's sides.
func (l look) meets(clear int) bool {
	return l.left && floating{side: api.Left}.cleared(clear) || l.right && floating{side: api.Right}.cleared(clear)
}

// end gives a look that has ended.
func (l look) end() look {
	l.ended = true
	return l
}

// into looks into a box.
func (l look) into(at int) look {
	b := l.Tree.Box(at)
	l = l.on(b.Margins[0])
	if b.Edges[0] > 0 {
		return l.end()
	}
	for _, child := range within(l.Tree, at) {
		if l.ended {
			return l
		}
		l = l.through(child)
	}
	if b.Edges[2] > 0 || b.Height != api.Auto {
		return l.end()
	}
	return l
}

// through looks at a box that stands in one.
func (l look) through(at int) look {
	b := l.Tree.Box(at)
	switch b.Kind {
	case api.Float:
		return l.found(at)
	case api.Atom:
		return l.end()
	case api.Root:
		if l.meets(b.Clear) {
			return l.end()
		}
		return l.on(b.Margins[0]).end()
	}
	return l.past(at)
}

// past looks past a box.
func (l look) past(at int) look {
	b := l.Tree.Box(at)
	if l.meets(b.Clear) {
		return l.end()
	}
	inner := l.into(at)
	if bottom, ok := l.bottom(b.Clear); ok && inner.at() < bottom {
		return l.end()
	}
	if inner.ended {
		return inner
	}
	return inner.on(b.Margins[2])
}
