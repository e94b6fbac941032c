package text_test

import (
	"slices"
	"testing"

	"runaround/api"
	"runaround/line"
	"runaround/rect"
	"runaround/space"
	"runaround/text"
)

// model lays items in the chapters' words: row by row, with its floats in a list.
type model struct {
	floats  []space.Float
	columns rect.Span
	y       int
	made    bool
	top     int
	atoms   []int // the line's atoms
	waiting []int
	items   []text.Item
	laid    text.Laid
	fates   fates
}

// fates counts what became of items.
type fates struct{ begins, fits, ends, alone, beside, waits, low, tight, behind, idle int }

// bounds gives the bounds of rows, of each one anew, as layer 9 says.
func (m *model) bounds(y, height int) (int, int) {
	from, to := -1<<52, 1<<52
	for row := y; row < y+max(1, height); row++ {
		for _, f := range m.floats {
			b := f.Box
			if b.Left >= b.Right || row < b.Top || row >= b.Bottom {
				continue
			}
			if f.Side == 1 {
				from = max(from, b.Right)
			} else {
				to = min(to, b.Left)
			}
		}
	}
	return from, to
}

// free gives where what is free of the columns begins and ends, beside something.
func (m *model) free(y, height int) (int, int) {
	from, to := m.bounds(y, height)
	return max(m.columns.From, from), min(m.columns.To, to)
}

// size gives how wide some atoms are together, and how high the highest one is.
func (m *model) size(atoms []int) (int, int) {
	wide, high := 0, 0
	for _, at := range atoms {
		wide += m.items[at].Size.Width
		high = max(high, m.items[at].Size.Height)
	}
	return wide, high
}

// beginsAt tells whether a line may begin with an atom at a height.
func (m *model) beginsAt(z line.Size, y int) bool {
	a, b := m.free(y, z.Height)
	from, to := m.bounds(y, z.Height)
	wider := z.Width > m.columns.To-m.columns.From
	return z.Width <= b-a || wider && from <= m.columns.From && to >= m.columns.To
}

// fits tells whether a line has room for all of some atoms.
func (m *model) fits(atoms []int) bool {
	wide, high := m.size(atoms)
	a, b := m.free(m.top, high)
	return wide <= b-a
}

// atom adds an atom.
func (m *model) atom(at int) {
	if m.made && m.fits(append(slices.Clone(m.atoms), at)) {
		m.atoms = append(m.atoms, at)
		m.fates.fits++
		return
	}
	if m.made {
		m.fates.ends++
		m.end()
	}
	for m.top = m.y; !m.beginsAt(m.items[at].Size, m.top); {
		m.top++
	}
	m.made, m.atoms = true, []int{at}
	m.fates.begins++
}

// start tells where a float may stand at the highest.
func (m *model) start(item text.Item, y int) int {
	for _, f := range m.floats {
		y = max(y, f.Box.Top)
		if item.Clear == 3 || item.Clear == f.Side {
			y = max(y, f.Box.Bottom)
		}
	}
	return y
}

// stands tells where a float would stand at a height, if it may.
func (m *model) stands(item text.Item, y int) (int, bool) {
	from, to := m.bounds(y, item.Size.Height)
	a, b := m.free(y, item.Size.Height)
	width := item.Size.Width
	wider := width > m.columns.To-m.columns.From
	if item.Side == 1 && (width <= b-a || wider && a == m.columns.From && a+width <= to) {
		return a, true
	}
	if item.Side == 2 && (width <= b-a || wider && b == m.columns.To && b-width >= from) {
		return b - width, true
	}
	return 0, false
}

// find goes down from a float's start, row by row.
func (m *model) find(item text.Item, y int) api.Rect {
	for y = m.start(item, y); ; y++ {
		if x, ok := m.stands(item, y); ok {
			return box(x, y, x+item.Size.Width, y+item.Size.Height)
		}
	}
}

// put lets a float stand.
func (m *model) put(at int, b api.Rect) {
	m.floats = append(m.floats, space.Float{Side: m.items[at].Side, Box: b})
	m.laid.Boxes[at] = b
}

// besides tells whether a float at some place goes beside the line.
func (m *model) besides(side int, f api.Rect) bool {
	wide, high := m.size(m.atoms)
	a, b := m.free(m.top, high)
	if side == 1 {
		a = max(a, f.Right)
	} else {
		b = min(b, f.Left)
	}
	full := f.Left < f.Right && f.Top < f.Bottom
	if f.Top != m.top {
		m.fates.low++
	} else if full && b-a < wide {
		m.fates.tight++
	}
	return f.Top == m.top && (!full || b-a >= wide)
}

// float places a float, or lets it wait.
func (m *model) float(at int) {
	item := m.items[at]
	if !m.made {
		m.fates.alone++
		m.put(at, m.find(item, m.start(item, m.y)))
		return
	}
	found := m.find(item, m.top)
	beside := m.besides(item.Side, found)
	if len(m.waiting) == 0 && beside {
		m.fates.beside++
		m.put(at, found)
		return
	}
	if beside {
		m.fates.behind++
	}
	m.fates.waits++
	m.waiting = append(m.waiting, at)
}

// end ends the line.
func (m *model) end() {
	wide, high := m.size(m.atoms)
	a, b := m.free(m.top, high)
	m.laid.Lines = append(m.laid.Lines, lineOf(box(a, m.top, b, m.top+high), len(m.atoms), wide))
	for _, at := range m.atoms {
		z := m.items[at].Size
		m.laid.Boxes[at] = box(a, m.top, a+z.Width, m.top+z.Height)
		a += z.Width
	}
	m.y = m.top + high
	for _, at := range m.waiting {
		m.put(at, m.find(m.items[at], m.y))
	}
	m.made, m.atoms, m.waiting = false, nil, nil
}

// lay lays all items.
func (m *model) lay(l []text.Item) text.Laid {
	m.items = l
	m.laid.Boxes = make([]api.Rect, len(l))
	for at, item := range l {
		if item.Side == 0 {
			m.atom(at)
		} else {
			m.float(at)
		}
	}
	if m.made {
		m.fates.idle += len(m.waiting)
		m.end()
	}
	m.laid.Bottom = m.y
	return m.laid
}

// agrees tells it if items are laid otherwise than the chapter says, or don't keep what the document promises of them.
func agrees(t *testing.T, floats []space.Float, columns rect.Span, y int, l []text.Item) fates {
	t.Helper()
	m := model{floats: slices.Clone(floats), columns: columns, y: y}
	s := of(floats...)
	lays(t, s, columns, y, l, m.lay(l))
	if got := s.Floats(); !slices.Equal(got, m.floats) {
		t.Errorf("%v, not %v", got, m.floats)
	}
	keeps(t, y, l, text.Lay(of(floats...), columns, y, l))
	return m.fates
}

// keeps tells it if what was laid doesn't keep what is promised of all items, however they came there: all atoms stand
// on the lines, side by side, each in order; each line below the one ahead, and none of its floats above it.
func keeps(t *testing.T, y int, l []text.Item, got text.Laid) {
	t.Helper()
	var atoms, floats []api.Rect
	for i, b := range got.Boxes {
		if z := l[i].Size; rect.Columns(b).Len() != z.Width || rect.Rows(b).Len() != z.Height {
			t.Errorf("%v: %v", l[i], b)
		}
		if l[i].Side == api.None {
			atoms = append(atoms, b)
		} else {
			floats = append(floats, b)
		}
	}
	for i, f := range floats {
		if f.Top < y || i > 0 && f.Top < floats[i-1].Top {
			t.Errorf("%v: %v stands too high", l, f)
		}
	}
	for _, x := range got.Lines {
		if x.Atoms < 1 || x.Atoms > len(atoms) || x.Box.Top < y {
			t.Fatalf("%v: %v, from %d on, of %v", l, x, y, atoms)
		}
		from := x.Box.Left
		for _, b := range atoms[:x.Atoms] {
			if b.Left != from || b.Top != x.Box.Top || b.Bottom > x.Box.Bottom {
				t.Errorf("%v: %v stands elsewhere than on %v", l, b, x)
			}
			from = b.Right
		}
		if from-x.Box.Left != x.Wide {
			t.Errorf("%v: %v, up to %d", l, x, from)
		}
		y, atoms = x.Box.Bottom, atoms[x.Atoms:]
	}
	if len(atoms) != 0 || got.Bottom != y {
		t.Errorf("%v: %v are on no line, or it ends at %d, not %d", l, atoms, got.Bottom, y)
	}
}

// few gives a few items.
func few() []text.Item {
	return items(atom(1, 1), atom(2, 0), atom(1, 3), atom(4, 1), atom(0, 2),
		float(api.Left, 1, 2), float(api.Right, 2, 1), clears(api.Left, api.Right, 2, 1), clears(api.Right, api.Both, 1, 1),
		float(api.Left, 5, 1), float(api.Right, 0, 2))
}

// All lists of up to four of a few items.
func TestAllOfAFew(t *testing.T) {
	var add func(l []text.Item)
	add = func(l []text.Item) {
		agrees(t, nil, span(0, 3), 0, l)
		agrees(t, []space.Float{left(-1, 1, 1, 3)}, span(0, 4), 0, l)
		for _, item := range few() {
			if len(l) < 4 && !t.Failed() {
				add(append(slices.Clone(l), item))
			}
		}
	}
	add(nil)
}

// chosen gives numbers by a rule of its own.
type chosen uint64

// to gives one from 0 to n, without n.
func (c *chosen) to(n int) int {
	*c = *c*6364136223846793005 + 1442695040888963407
	return int(*c>>34) % n
}

// floats gives up to so many that stand anywhere, and may be full or not; most left ones are at the left, most right
// ones at the right.
func (c *chosen) floats(n int) []space.Float {
	var all []space.Float
	for range c.to(n + 1) {
		side := 1 + c.to(2)
		x, y := c.to(12)-8, c.to(20)-4
		if side == api.Right {
			x += 14
		}
		all = append(all, space.Float{Side: side, Box: box(x, y, x+c.to(9)-1, y+c.to(5)-1)})
	}
	return all
}

// columns gives columns that lie anywhere.
func (c *chosen) columns() rect.Span {
	from := c.to(8) - 4
	return span(from, from+c.to(16))
}

// size gives an atom's size; a few are wide, and a few are high.
func (c *chosen) size() line.Size {
	width, height := c.to(5), c.to(4)
	if c.to(8) == 0 {
		width += c.to(14)
	}
	if c.to(8) == 0 {
		height += c.to(9)
	}
	return z(width, height)
}

// among gives a float among atoms; most clear nothing, and a few aren't full.
func (c *chosen) among() text.Item {
	clear := c.to(12)
	if clear > api.Both {
		clear = api.None
	}
	width, height := c.to(6)-c.to(5)/4, c.to(6)-c.to(5)/4
	if c.to(8) == 0 {
		width += c.to(12)
	}
	return clears(1+c.to(2), clear, width, height)
}

// list gives up to so many items.
func (c *chosen) list(n int) []text.Item {
	var all []text.Item
	for range c.to(n + 1) {
		if c.to(3) == 0 {
			all = append(all, c.among())
		} else {
			all = append(all, text.Item{Size: c.size()})
		}
	}
	return all
}

// add counts what became of more items.
func (f *fates) add(g fates) {
	f.begins += g.begins
	f.fits += g.fits
	f.ends += g.ends
	f.alone += g.alone
	f.beside += g.beside
	f.waits += g.waits
	f.low += g.low
	f.tight += g.tight
	f.behind += g.behind
	f.idle += g.idle
}

// Floats anywhere, and items of all kinds among them; and of each of their fates there are many.
func TestAmongFloatsAnywhere(t *testing.T) {
	var f fates
	for seed := range 8000 {
		c := chosen(seed)
		f.add(agrees(t, c.floats(9), c.columns(), c.to(20)-8, c.list(30)))
		if t.Failed() {
			return
		}
	}
	if least := min(f.begins, f.fits, f.ends, f.alone, f.beside, f.waits, f.low, f.tight, f.behind, f.idle); least < 1000 {
		t.Errorf("%+v", f)
	}
}

// Texts that are laid one below the other, in one space: each with the floats of those ahead.
func TestTextsInOneSpace(t *testing.T) {
	for seed := range 300 {
		c := chosen(seed)
		s, y := space.New(), 0
		for range 5 {
			columns, l := c.columns(), c.list(12)
			m := model{floats: s.Floats(), columns: columns, y: y}
			want := m.lay(l)
			lays(t, s, columns, y, l, want)
			y = want.Bottom + c.to(3) - 1
		}
		if t.Failed() {
			return
		}
	}
}

// K6: texts in spaces of their own have nothing to do with each other, in whatever order they are laid.
func TestManySpacesStandApart(t *testing.T) {
	c := chosen(11)
	spaces := []*space.Space{space.New(), space.New(), space.New()}
	models := make([]model, len(spaces))
	for range 40 {
		i, l := c.to(len(spaces)), c.list(8)
		columns, y := c.columns(), models[i].y
		m := model{floats: models[i].floats, columns: columns, y: y}
		want := m.lay(l)
		lays(t, spaces[i], columns, y, l, want)
		models[i] = m
		for j, s := range spaces {
			if !slices.Equal(s.Floats(), models[j].floats) {
				t.Errorf("%v, not %v", s.Floats(), models[j].floats)
			}
		}
		if t.Failed() {
			return
		}
	}
}
