package flow_test

import (
	"slices"

	"runaround/api"
	"runaround/flow"
	"runaround/line"
	"runaround/rect"
)

// world is the floats of a context in a list, of which all is asked row by row, as layers 9 to 12 say.
type world struct{ floats []floating }

// floating is a float's side, and its margin box.
type floating struct {
	side int
	box  api.Rect
}

// cleared tells whether a float is one of those that are cleared.
func (f floating) cleared(clear int) bool { return clear == api.Both || clear == f.side }

// bounds gives the bounds of rows, of each one anew.
func (w *world) bounds(y, height int) (int, int) {
	from, to := -1<<52, 1<<52
	for row := y; row < y+max(1, height); row++ {
		for _, f := range w.floats {
			b := f.box
			if b.Left >= b.Right || row < b.Top || row >= b.Bottom {
				continue
			}
			if f.side == api.Left {
				from = max(from, b.Right)
			} else {
				to = min(to, b.Left)
			}
		}
	}
	return from, to
}

// free gives where what is free of columns begins and ends, beside something.
func (w *world) free(columns rect.Span, y, height int) (int, int) {
	from, to := w.bounds(y, height)
	return max(columns.From, from), min(columns.To, to)
}

// bottom gives the lowest bottom of the floats that are cleared, if there is one.
func (w *world) bottom(clear int) (int, bool) {
	var bottoms []int
	for _, f := range w.floats {
		if f.cleared(clear) {
			bottoms = append(bottoms, f.box.Bottom)
		}
	}
	if len(bottoms) == 0 {
		return 0, false
	}
	return slices.Max(bottoms), true
}

// clear gives a height that is clear of the floats that are cleared.
func (w *world) clear(clear, y int) int {
	if bottom, ok := w.bottom(clear); ok {
		return max(y, bottom)
	}
	return y
}

// wanted is a float that is to be placed.
type wanted struct {
	side, clear   int
	columns       rect.Span
	width, height int
}

// at tells where a float would stand at a height, if it may.
func (w *world) at(f wanted, y int) (int, bool) {
	from, to := w.bounds(y, f.height)
	a, b := w.free(f.columns, y, f.height)
	room := f.width <= b-a
	wider := f.width > f.columns.To-f.columns.From
	if f.side == api.Left && (room || wider && a == f.columns.From && a+f.width <= to) {
		return a, true
	}
	if f.side == api.Right && (room || wider && b == f.columns.To && b-f.width >= from) {
		return b - f.width, true
	}
	return 0, false
}

// find goes down from a float's start, row by row.
func (w *world) find(f wanted, y int) api.Rect {
	for _, other := range w.floats {
		y = max(y, other.box.Top)
	}
	for y = w.clear(f.clear, y); ; y++ {
		if x, ok := w.at(f, y); ok {
			return box(x, y, x+f.width, y+f.height)
		}
	}
}

// put lets a float stand.
func (w *world) put(side int, b api.Rect) { w.floats = append(w.floats, floating{side: side, box: b}) }

// avoided goes down from a height to where a border box may stand that no float reaches into.
func (w *world) avoided(room rect.Span, width, height, y int) api.Rect {
	for ; ; y++ {
		from, to := w.bounds(y, height)
		a, b := w.free(room, y, height)
		untouched := width > room.To-room.From && from <= room.From && to >= room.From+width
		if width <= b-a || untouched {
			return box(a, y, a+width, y+height)
		}
	}
}

// item is an atom, or a float, of a Text, by its place.
type item struct {
	at    int
	float bool
	wanted
}

// lining is lines that are made of items, as layers 13 and 14 say.
type lining struct {
	*world
	columns rect.Span
	y, top  int
	atoms   []item // the line's
	waiting []item
	boxes   map[int]api.Rect
	lines   []line.Line
}

// size gives how wide some atoms are together, and how high the highest one is.
func size(atoms []item) (int, int) {
	wide, high := 0, 0
	for _, a := range atoms {
		wide += a.width
		high = max(high, a.height)
	}
	return wide, high
}

// begins tells whether a line may begin with an atom at a height.
func (l *lining) begins(z item, y int) bool {
	a, b := l.free(l.columns, y, z.height)
	from, to := l.bounds(y, z.height)
	wider := z.width > l.columns.To-l.columns.From
	return z.width <= b-a || wider && from <= l.columns.From && to >= l.columns.To
}

// atom adds an atom.
func (l *lining) atom(z item) {
	if len(l.atoms) > 0 {
		longer := append(slices.Clone(l.atoms), z)
		wide, high := size(longer)
		if a, b := l.free(l.columns, l.top, high); wide <= b-a {
			l.atoms = longer
			return
		}
		l.end()
	}
	for l.top = l.y; !l.begins(z, l.top); {
		l.top++
	}
	l.atoms = []item{z}
}

// place places a float from a height on.
func (l *lining) place(f item, b api.Rect) {
	l.put(f.side, b)
	l.boxes[f.at] = b
}

// float places a float, or lets it wait for the line's end.
func (l *lining) float(f item) {
	if len(l.atoms) == 0 {
		l.place(f, l.find(f.wanted, l.y))
		return
	}
	b := l.find(f.wanted, l.top)
	if len(l.waiting) > 0 || b.Top != l.top || full(b) && !l.leaves(f.side, b) {
		l.waiting = append(l.waiting, f)
		return
	}
	l.place(f, b)
}

// leaves tells whether a float beside the line leaves the room that its atoms need.
func (l *lining) leaves(side int, f api.Rect) bool {
	wide, high := size(l.atoms)
	a, b := l.free(l.columns, l.top, high)
	if side == api.Left {
		a = max(a, f.Right)
	} else {
		b = min(b, f.Left)
	}
	return wide <= b-a
}

// end ends the line.
func (l *lining) end() {
	wide, high := size(l.atoms)
	a, b := l.free(l.columns, l.top, high)
	l.lines = append(l.lines, line.Line{Box: box(a, l.top, b, l.top+high), Atoms: len(l.atoms), Wide: wide})
	for _, z := range l.atoms {
		l.boxes[z.at] = box(a, l.top, a+z.width, l.top+z.height)
		a += z.width
	}
	l.y = l.top + high
	for _, f := range l.waiting {
		l.place(f, l.find(f.wanted, l.y))
	}
	l.atoms, l.waiting = nil, nil
}

// lay lays items, one after the other.
func (l *lining) lay(items []item) {
	for _, z := range items {
		if z.float {
			l.float(z)
		} else {
			l.atom(z)
		}
	}
	if len(l.atoms) > 0 {
		l.end()
	}
}

// full tells whether a rectangle has a point.
func full(r api.Rect) bool { return r.Left < r.Right && r.Top < r.Bottom }

// meet tells whether there is a point in both rectangles.
func meet(a, b api.Rect) bool {
	return full(box(max(a.Left, b.Left), max(a.Top, b.Top), min(a.Right, b.Right), min(a.Bottom, b.Bottom)))
}

// box gives a rectangle.
func box(left, top, right, bottom int) api.Rect {
	return api.Rect{Left: left, Top: top, Right: right, Bottom: bottom}
}

// same tells whether two outputs are alike.
func same(a, b flow.Output) bool {
	return slices.Equal(a.Boxes, b.Boxes) && slices.Equal(a.Lines, b.Lines) && a.Height == b.Height
}
