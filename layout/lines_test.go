package layout_test

import (
	"testing"

	"runaround/api"
)

// P19.1: one line in a Text: it has its box, its Text's place, its first Atom's place, and how many Atoms it has.
func TestOneLine(t *testing.T) {
	stands(t, page(sides(1, 2, 3, 4), text(1), atom(2, 10, 2), atom(2, 20, 1), atom(2, 10, 3)),
		[]api.Rect{box(0, 0, 46, 7), box(4, 1, 44, 4), box(4, 1, 14, 3), box(14, 1, 34, 2), box(34, 1, 44, 4)},
		lineOf(1, box(4, 1, 44, 4), 2, 3))
}

// P19.1: Texts without Atoms have no lines; what stands in them is where it is all the same.
func TestNoLine(t *testing.T) {
	stands(t, page(sides(1, 0, 0, 1), text(1), float(1, api.Left, 6, api.Auto), text(2), float(3, api.Right, 4, 2), text(1)),
		[]api.Rect{box(0, 0, 41, 3), box(1, 1, 41, 1), box(1, 1, 7, 3), box(1, 1, 7, 1), box(3, 1, 7, 3), box(1, 1, 41, 1)})
}

// P19.1: a Text's Atoms, in order, are cut into its lines: one each, more, and all that are left.
func TestAtomsAreCut(t *testing.T) {
	stands(t, page([4]int{},
		text(1), atom(2, 40, 1), atom(2, 15, 1), atom(2, 15, 1), atom(2, 10, 1), atom(2, 1, 1), atom(2, 1, 0), atom(2, 39, 2),
	), []api.Rect{
		box(0, 0, 40, 5), box(0, 0, 40, 5),
		box(0, 0, 40, 1),
		box(0, 1, 15, 2), box(15, 1, 30, 2), box(30, 1, 40, 2),
		box(0, 2, 1, 3), box(1, 2, 2, 2),
		box(0, 3, 39, 5),
	}, lineOf(1, box(0, 0, 40, 1), 2, 1), lineOf(1, box(0, 1, 40, 2), 3, 3), lineOf(1, box(0, 2, 40, 3), 6, 2), lineOf(1, box(0, 3, 40, 5), 8, 1))
}

// P19.1: lines beside Floats that stand ahead of the Atoms and among them, in the outer context, and in one that is moved
// to stand between two Texts of that.
func TestLinesBesideFloats(t *testing.T) {
	stands(t, page(sides(1, 0, 0, 2),
		text(1), float(2, api.Left, 5, 3), atom(2, 20, 2), atom(2, 15, 1), float(2, api.Right, 6, 4), atom(2, 10, 1), // 1 to 6
		framed(float(1, api.Right, 12, api.Auto), [4]int{}, sides(1, 1, 1, 1)), // 7: its content begins at 23, 5
		text(2), atom(3, 7, 1), atom(3, 5, 2), float(3, api.Left, 3, 5), atom(3, 4, 1), // 8 to 12
		text(1), atom(2, 3, 1), // 13 and 14
	), []api.Rect{
		box(0, 0, 42, 13),
		box(2, 1, 42, 4), box(2, 1, 7, 4), box(7, 1, 27, 3), box(27, 1, 42, 2), box(36, 3, 42, 7), box(7, 3, 17, 4),
		box(22, 4, 36, 13),
		box(23, 5, 35, 8), box(23, 5, 30, 6), box(30, 5, 35, 7), box(23, 7, 26, 12), box(26, 7, 30, 8),
		box(2, 4, 42, 5), box(2, 4, 5, 5),
	},
		lineOf(1, box(7, 1, 42, 3), 3, 2), lineOf(1, box(7, 3, 36, 4), 6, 1),
		lineOf(8, box(23, 5, 35, 7), 9, 2), lineOf(8, box(26, 7, 35, 8), 12, 1),
		lineOf(13, box(2, 4, 22, 5), 14, 1))
}

// P19.1: a line's first Atom stands behind Floats, and what stands in these, Atoms of other Texts, too: they aren't its
// own, nor are there any lines of them among its Text's.
func TestFloatsWithAtomsAmongAtoms(t *testing.T) {
	stands(t, page(sides(0, 0, 0, 1),
		text(1),                                                                // 1
		float(2, api.Left, 8, api.Auto), text(3), atom(4, 5, 1), atom(4, 5, 1), // 2 to 5
		atom(2, 20, 1), // 6
		framed(float(2, api.Right, 9, api.Auto), [4]int{}, sides(0, 1, 0, 0)), text(3), atom(4, 9, 1), atom(4, 9, 2), // 7 to 10
		atom(2, 2, 1), atom(2, 22, 1), // 11 and 12
	), []api.Rect{
		box(0, 0, 41, 3),
		box(1, 0, 41, 2),
		box(1, 0, 9, 2), box(1, 0, 9, 2), box(1, 0, 6, 1), box(1, 1, 6, 2),
		box(9, 0, 29, 1),
		box(31, 0, 41, 3), box(31, 0, 40, 3), box(31, 0, 40, 1), box(31, 1, 40, 3),
		box(29, 0, 31, 1), box(9, 1, 31, 2),
	},
		lineOf(1, box(9, 0, 31, 1), 6, 2), lineOf(1, box(9, 1, 31, 2), 12, 1),
		lineOf(3, box(1, 0, 9, 1), 4, 1), lineOf(3, box(1, 1, 9, 2), 5, 1),
		lineOf(8, box(31, 0, 40, 1), 9, 1), lineOf(8, box(31, 1, 40, 3), 10, 1))
}

// P19.1: lines are in the order of their Texts' places, wherever the contexts are in which these stand: inner ones ahead
// of all of an outer one's, between them, and behind them.
func TestOrderOfLines(t *testing.T) {
	narrow := framed(root(1, api.Auto), sides(0, 35, 0, 0), [4]int{})
	words := func(depth int) []api.Box { return []api.Box{text(depth), atom(depth+1, 3, 1), atom(depth+1, 3, 1)} }
	l := page([4]int{}, float(1, api.Left, 5, api.Auto))                                                       // 1
	l = append(l, words(2)...)                                                                                 // 2 to 4
	l = append(l, words(1)...)                                                                                 // 5 to 7
	l = append(append(append(l, narrow), words(2)...), framed(root(2, api.Auto), sides(0, 0, 0, 1), [4]int{})) // 8 to 12
	l = append(append(append(l, words(3)...), words(2)...), words(1)...)                                       // 13 to 15, 16 to 18, 19 to 21
	stands(t, l, []api.Rect{
		box(0, 0, 40, 9),
		box(0, 0, 5, 2), box(0, 0, 5, 2), box(0, 0, 3, 1), box(0, 1, 3, 2),
		box(0, 0, 40, 1), box(5, 0, 8, 1), box(8, 0, 11, 1),
		box(0, 2, 5, 8), box(0, 2, 5, 4), box(0, 2, 3, 3), box(0, 3, 3, 4),
		box(1, 4, 5, 6), box(1, 4, 5, 6), box(1, 4, 4, 5), box(1, 5, 4, 6),
		box(0, 6, 5, 8), box(0, 6, 3, 7), box(0, 7, 3, 8),
		box(0, 8, 40, 9), box(0, 8, 3, 9), box(3, 8, 6, 9),
	},
		lineOf(2, box(0, 0, 5, 1), 3, 1), lineOf(2, box(0, 1, 5, 2), 4, 1),
		lineOf(5, box(5, 0, 40, 1), 6, 2),
		lineOf(9, box(0, 2, 5, 3), 10, 1), lineOf(9, box(0, 3, 5, 4), 11, 1),
		lineOf(13, box(1, 4, 5, 5), 14, 1), lineOf(13, box(1, 5, 5, 6), 15, 1),
		lineOf(16, box(0, 6, 5, 7), 17, 1), lineOf(16, box(0, 7, 5, 8), 18, 1),
		lineOf(19, box(0, 8, 40, 9), 20, 2))
}

// P19.1: lines whose boxes have no point are lines, too.
func TestLinesWithoutPoints(t *testing.T) {
	l := page(sides(2, 0, 0, 3), text(1), atom(2, 0, 0), atom(2, 41, 0), atom(2, 0, 5))
	stands(t, l, []api.Rect{
		box(0, 0, 43, 7), box(3, 2, 43, 7), box(3, 2, 3, 2), box(3, 2, 44, 2), box(3, 2, 3, 7),
	}, lineOf(1, box(3, 2, 43, 2), 2, 1), lineOf(1, box(3, 2, 43, 2), 3, 1), lineOf(1, box(3, 2, 43, 7), 4, 1))
	l[0].Width = 0
	stands(t, l[:3], []api.Rect{box(0, 0, 3, 2), box(3, 2, 3, 2), box(3, 2, 3, 2)}, lineOf(1, box(3, 2, 3, 2), 2, 1))
}
