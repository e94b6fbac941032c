package line_test

import (
	"slices"
	"testing"

	"runaround/api"
	"runaround/line"
	"runaround/place"
	"runaround/rect"
	"runaround/space"
)

// boundsOf gives the bounds of rows, of each one anew, as layer 9 says.
func boundsOf(floats []space.Float, y, rows int) (int, int) {
	from, to := -1<<52, 1<<52
	for row := y; row < y+rows; row++ {
		for _, f := range floats {
			b := f.Box
			if b.Left >= b.Right || row < b.Top || row >= b.Bottom {
				continue
			}
			if f.Side == 1 {
				from = max(from, b.Right)
			} else {
				to = min(to, b.Left)
			}
		}
	}
	return from, to
}

// model is a builder in the chapter's words, with its floats in a list.
type model struct {
	floats  []space.Float
	columns rect.Span
	y       int
	made    bool
	top     int
	sizes   []line.Size
}

// size gives how wide some atoms are together, and how high the highest one is.
func size(l []line.Size) (int, int) {
	wide, high := 0, 0
	for _, z := range l {
		wide += z.Width
		high = max(high, z.Height)
	}
	return wide, high
}

// free gives where what is free of the columns begins and ends, beside something.
func (m *model) free(y, height int) (int, int) {
	from, to := boundsOf(m.floats, y, max(1, height))
	return max(m.columns.From, from), min(m.columns.To, to)
}

// beginsAt tells whether a line may begin with an atom at a height.
func (m *model) beginsAt(z line.Size, y int) bool {
	a, b := m.free(y, z.Height)
	if z.Width <= b-a {
		return true
	}
	from, to := boundsOf(m.floats, y, max(1, z.Height))
	return z.Width > m.columns.To-m.columns.From && from <= m.columns.From && to >= m.columns.To
}

// fits tells whether a further atom fits.
func (m *model) fits(z line.Size) bool {
	wide, high := size(append(slices.Clone(m.sizes), z))
	a, b := m.free(m.top, high)
	return wide <= b-a
}

func (m *model) now() (line.Line, bool) {
	if !m.made {
		return line.Line{}, false
	}
	wide, high := size(m.sizes)
	a, b := m.free(m.top, high)
	return lineOf(box(a, m.top, b, m.top+high), len(m.sizes), wide), true
}

// add goes down from the builder's height, row by row, to where a line begins.
func (m *model) add(z line.Size) bool {
	if m.made && !m.fits(z) {
		return false
	}
	if !m.made {
		m.top = m.y
		for !m.beginsAt(z, m.top) {
			m.top++
		}
	}
	m.made = true
	m.sizes = append(m.sizes, z)
	return true
}

// leaves tells whether a float leaves as much of the line's box as its atoms are wide.
func (m *model) leaves(side int, f api.Rect) bool {
	now, _ := m.now()
	if side == 1 {
		return now.Box.Right-max(now.Box.Left, f.Right) >= now.Wide
	}
	return min(now.Box.Right, f.Left)-now.Box.Left >= now.Wide
}

func (m *model) float(w place.Want) (api.Rect, bool) {
	if !m.made {
		return api.Rect{}, false
	}
	f := place.Find(of(m.floats...), w)
	full := f.Left < f.Right && f.Top < f.Bottom
	if f.Top != m.top || full && !m.leaves(w.Side, f) {
		return api.Rect{}, false
	}
	m.floats = append(m.floats, space.Float{Side: w.Side, Box: f})
	return f, true
}

func (m *model) end() (line.Line, bool) {
	now, ok := m.now()
	if ok {
		m.y = now.Box.Bottom
	}
	m.made, m.sizes = false, nil
	return now, ok
}

// all gives the lines of atoms.
func (m *model) all(l []line.Size) []line.Line {
	var lines []line.Line
	for _, z := range l {
		if !m.add(z) {
			now, _ := m.end()
			lines = append(lines, now)
			m.add(z)
		}
	}
	if now, ok := m.end(); ok {
		lines = append(lines, now)
	}
	return lines
}

// keeps tells it if lines of atoms don't keep what the document promises of all lines, however they came about.
func keeps(t *testing.T, s *space.Space, columns rect.Span, y int, l []line.Size, lines []line.Line) {
	t.Helper()
	floats, m := s.Floats(), model{floats: s.Floats(), columns: columns}
	for i, x := range lines {
		if x.Atoms < 1 || x.Atoms > len(l) {
			t.Fatalf("%v: %d atoms are left", x, len(l))
		}
		m.sizes, m.top, l = l[:x.Atoms], x.Box.Top, l[x.Atoms:]
		wide, high := size(m.sizes)
		if x.Wide != wide || rect.Rows(x.Box) != (rect.Span{From: m.top, To: m.top + high}) || m.top < y {
			t.Errorf("%v, of %v, from %d on", x, m.sizes, y)
		}
		for row := y; row < m.top; row++ {
			if m.beginsAt(m.sizes[0], row) {
				t.Errorf("%v might begin at %d", x, row)
			}
		}
		if meets := func(f space.Float) bool { return rect.Meet(f.Box, x.Box) }; slices.ContainsFunc(floats, meets) {
			t.Errorf("%v meets one of %v", x, floats)
		}
		if i < len(lines)-1 && m.fits(l[0]) {
			t.Errorf("%v ends ahead of %v", x, l[0])
		}
		y = x.Box.Bottom
	}
	if len(l) != 0 {
		t.Errorf("%v are in no line", l)
	}
}

// agrees tells it if atoms make other lines than the chapter says, or lines that don't keep its promises.
func agrees(t *testing.T, floats []space.Float, columns rect.Span, y int, l []line.Size) {
	t.Helper()
	s := of(floats...)
	m := model{floats: floats, columns: columns, y: y}
	makes(t, s, columns, y, l, m.all(l)...)
	keeps(t, s, columns, y, l, line.All(s, columns, y, l))
}

// few gives floats of both sides, in rows of a few, with edges of a few; some of them aren't full.
func few() []space.Float {
	var all []space.Float
	for top := range 3 {
		for _, height := range []int{-1, 1, 2} {
			for _, edge := range []int{0, 1, 3} {
				all = append(all, left(edge-1, edge, top, top+height), right(edge, edge+1, top, top+height))
			}
		}
	}
	return all
}

// fewSizes gives all pairs of atoms of a few sizes.
func fewSizes() [][]line.Size {
	var all [][]line.Size
	sizes := []line.Size{z(0, 0), z(1, 1), z(1, 2), z(2, 0), z(2, 1), z(4, 2)}
	for _, a := range sizes {
		for _, b := range sizes {
			all = append(all, []line.Size{a, b})
		}
	}
	return all
}

// P13.4: all pairs of a few floats, which may stand over each other, and all pairs of a few atoms.
func TestAllPairs(t *testing.T) {
	for _, a := range few() {
		for _, b := range few() {
			for _, l := range fewSizes() {
				agrees(t, []space.Float{a, b}, span(0, 3), 0, l)
			}
			if t.Failed() {
				return
			}
		}
	}
}

// chosen gives numbers by a rule of its own.
type chosen uint64

// to gives one from 0 to n, without n.
func (c *chosen) to(n int) int {
	*c = *c*6364136223846793005 + 1442695040888963407
	return int(*c>>34) % n
}

// float gives a float that stands anywhere, and may be full or not; most left ones are at the left, most right ones
// at the right.
func (c *chosen) float() space.Float {
	side := 1 + c.to(2)
	x, y := c.to(12)-8, c.to(30)-4
	if side == api.Right {
		x += 12
	}
	return space.Float{Side: side, Box: box(x, y, x+c.to(9)-1, y+c.to(5)-1)}
}

// floats gives up to so many.
func (c *chosen) floats(n int) []space.Float {
	var all []space.Float
	for range c.to(n + 1) {
		all = append(all, c.float())
	}
	return all
}

// columns gives columns that lie anywhere.
func (c *chosen) columns() rect.Span {
	from := c.to(8) - 4
	return span(from, from+c.to(16))
}

// size gives a size; a few are wide, and a few are high.
func (c *chosen) size() line.Size {
	width, height := c.to(5), c.to(4)
	if c.to(8) == 0 {
		width += c.to(14)
	}
	if c.to(8) == 0 {
		height += c.to(9)
	}
	return z(width, height)
}

// sizes gives up to so many.
func (c *chosen) sizes(n int) []line.Size {
	var all []line.Size
	for range c.to(n + 1) {
		all = append(all, c.size())
	}
	return all
}

// want gives a want of a builder's columns, or of ones beside them; a few of them aren't full.
func (c *chosen) want(columns rect.Span, from int) place.Want {
	if c.to(6) == 0 {
		columns.From -= c.to(4)
		columns.To += c.to(4)
	}
	clear := c.to(8)
	if clear > api.Both {
		clear = api.None
	}
	return place.Want{Side: 1 + c.to(2), Clear: clear, Columns: columns, Width: c.to(8) - 1, Height: c.to(7) - 1, From: from}
}

// P13.4: floats anywhere, and atoms of all kinds among them.
func TestAllAmongFloatsAnywhere(t *testing.T) {
	for seed := range 2000 {
		c := chosen(seed)
		agrees(t, c.floats(20), c.columns(), c.to(30)-8, c.sizes(30))
		if t.Failed() {
			return
		}
	}
}

// took counts what builders were asked for, and how often it was so, and not.
type took struct{ adds, full, floats, barred, ends, none, others int }

func count(so bool, yes, no *int) {
	if so {
		*yes++
	} else {
		*no++
	}
}

// step asks a builder and the model for one and the same thing, and tells it if they answer otherwise.
func (k *took) step(t *testing.T, c *chosen, s *space.Space, b *line.Builder, m *model) {
	t.Helper()
	switch c.to(12) {
	default:
		size := c.size()
		got, want := b.Add(size), m.add(size)
		if got != want {
			t.Errorf("add %v: %t, not %t", size, got, want)
		}
		count(want, &k.adds, &k.full)
	case 0, 1, 2, 3:
		top := m.y
		if m.made {
			top = m.top
		}
		w := c.want(m.columns, top+c.to(9)/8)
		got, ok := b.Float(w)
		if want, so := m.float(w); got != want || ok != so {
			t.Errorf("float %+v: %v, %t, not %v, %t", w, got, ok, want, so)
		}
		count(ok, &k.floats, &k.barred)
	case 4, 5:
		got, ok := b.End()
		if want, so := m.end(); got != want || ok != so {
			t.Errorf("end: %v, %t, not %v, %t", got, ok, want, so)
		}
		count(ok, &k.ends, &k.none)
	case 6:
		f := c.float()
		f.Box = rect.Shift(f.Box, 0, m.y)
		s.Put(f.Side, f.Box)
		m.floats = append(m.floats, f)
		k.others++
	}
}

// same tells it if a builder keeps something else than the model, or its space has other floats.
func same(t *testing.T, s *space.Space, b *line.Builder, m *model) {
	t.Helper()
	want, so := m.now()
	if got, ok := b.Now(); got != want || ok != so || b.Y() != m.y {
		t.Errorf("now %v, %t, not %v, %t; Y %d, not %d", got, ok, want, so, b.Y(), m.y)
	}
	if !slices.Equal(s.Floats(), m.floats) {
		t.Errorf("%v, not %v", s.Floats(), m.floats)
	}
}

// P13.1 to P13.3: atoms, floats and ends in any order, with floats that others put between.
func TestInAnyOrder(t *testing.T) {
	var k took
	for seed := range 3000 {
		c := chosen(seed)
		m := &model{floats: c.floats(4), columns: c.columns(), y: c.to(9) - 4}
		s := of(m.floats...)
		b := line.New(s, m.columns, m.y)
		for range 30 {
			k.step(t, &c, s, b, m)
			same(t, s, b, m)
		}
		if t.Failed() {
			return
		}
	}
	if least := min(k.adds, k.full, k.floats, k.barred, k.ends, k.none, k.others); least < 1000 {
		t.Errorf("%+v", k)
	}
}

// The lines that the tests above ask for begin at the builder's y, below it and below all floats; have one atom, and
// more; are wider than their columns; and are beside floats, of which some begin below their first row.
func TestChosenAreOfAllKinds(t *testing.T) {
	var at, below, last, one, more, wider, beside, deep, no int
	for seed := range 2000 {
		c := chosen(seed)
		floats, columns, y, l := c.floats(20), c.columns(), c.to(30)-8, c.sizes(30)
		s := of(floats...)
		for _, x := range line.All(s, columns, y, l) {
			after, ok := s.After(x.Box.Top)
			count(x.Box.Top == y, &at, &no)
			count(x.Box.Top > y && ok, &below, &no)
			count(x.Box.Top > y && !ok && len(floats) > 0, &last, &no)
			count(x.Atoms == 1, &one, &more)
			count(x.Wide > columns.Len(), &wider, &no)
			count(rect.Columns(x.Box) != columns, &beside, &no)
			count(ok && after < x.Box.Bottom, &deep, &no)
			y = x.Box.Bottom
		}
	}
	if least := min(at, below, last, one, more, wider, beside, deep); least < 200 {
		t.Error(at, below, last, one, more, wider, beside, deep)
	}
}

// K6: builders in spaces of their own have nothing to do with each other, in whatever order they are asked.
func TestManyBuildersStandApart(t *testing.T) {
	var k took
	c := chosen(7)
	var spaces []*space.Space
	var builders []*line.Builder
	var models []*model
	for i := range 4 {
		spaces = append(spaces, space.New())
		models = append(models, &model{columns: c.columns(), y: i})
		builders = append(builders, line.New(spaces[i], models[i].columns, i))
	}
	for range 160 {
		i := c.to(len(builders))
		k.step(t, &c, spaces[i], builders[i], models[i])
		for j := range builders {
			same(t, spaces[j], builders[j], models[j])
		}
		if t.Failed() {
			return
		}
	}
}

// P13.2 and P13.4: as many atoms as may be added, in one line, and in a line each; beside as many floats, one below
// the other.
func TestAsManyAsBoxes(t *testing.T) {
	const n = api.MaxBoxes
	s := space.New()
	for y := range n {
		s.Put(api.Left, box(0, y, 3+y%2, y+1))
	}
	makes(t, s, ten(), 0, make([]line.Size, n), lineOf(box(3, 0, 10, 0), n, 0))
	lines := line.All(s, ten(), 1, slices.Repeat([]line.Size{z(4, 1)}, n))
	for i, x := range lines {
		from := 3 + (i+1)%2
		if i == n-1 {
			from = 0
		}
		if x != lineOf(box(from, i+1, 10, i+2), 1, 4) {
			t.Fatal(i, x)
		}
	}
	if len(lines) != n {
		t.Error(len(lines))
	}
	makes(t, s, ten(), 7, []line.Size{z(6, n), z(1, 1), z(7, 1)},
		lineOf(box(4, 7, 10, n+7), 1, 6), lineOf(box(0, n+7, 10, n+8), 2, 8))
	makes(t, s, ten(), 7, []line.Size{z(8, big)}, lineOf(box(0, n, 10, n+big), 1, 8))
}
