package width_test

import (
	"math"
	"testing"

	"runaround/api"
	"runaround/record"
	"runaround/width"
)

// far is the greatest number that a content may be wide; -far is the least one. big is the greatest one of a box.
const (
	far = 1 << 45
	big = 1 << 28
)

// kinds has all kinds that there are.
var kinds = []int{api.Block, api.Float, api.Root, api.Text, api.Atom}

// sides gives margins, or edges, of which right and left have these numbers, and top and bottom others.
func sides(right, left int) [4]int {
	if right == 0 && left == 0 {
		return [4]int{}
	}
	return [4]int{90001, right, 90002, left}
}

// boxes gives boxes of each kind that may be: of Auto and of a Width, with margins and edges.
func boxes() []api.Box {
	margins := []int{0, 1, -1, 3, -7, big, -big}
	edges := []int{0, 1, 5, big}
	var all []api.Box
	for _, kind := range kinds {
		for _, wide := range []int{api.Auto, 0, 1, 12, big - 1, big} {
			for _, right := range margins {
				for _, left := range margins {
					for _, edge := range edges {
						b := api.Box{Kind: kind, Width: wide, Margins: sides(right, left), Edges: sides(edge, edge/2)}
						if kind == api.Float {
							b.Side = api.Left
						}
						if record.Check(b) == api.OK {
							all = append(all, b)
						}
					}
				}
			}
		}
	}
	return all
}

// takenBy gives what a box's margins and edges take of the content around, one by one.
func takenBy(b api.Box) int { return b.Margins[1] + b.Margins[3] + b.Edges[1] + b.Edges[3] }

// withins gives how wide contents are in which a box may stand.
func withins(b api.Box) []int {
	taken := takenBy(b)
	return []int{0, 1, -1, 20, -20, taken - 1, taken, taken + 1, taken + 33, -taken, big, -big, 1 - far, -far, far - 1, far}
}

// contents has how wide contents are.
var contents = []int{0, 1, -1, 15, -15, big, -big, far - 1, 1 - far, far, -far}

// answers gives how wide a box is in a content: its content, with its edges, with its margins.
func answers(b api.Box, within int) [3]int {
	content := width.Content(b, within)
	return [3]int{content, width.Border(b, content), width.Margin(b, content)}
}

// P8.1: the chapter's example.
func TestExample(t *testing.T) {
	b := api.Box{Kind: api.Block, Width: api.Auto, Margins: [4]int{0, 3, 0, 2}}
	if a := answers(b, 20); a != [3]int{15, 15, 20} {
		t.Error(a)
	}
}

// P8.1: answers that are written out.
func TestAnswers(t *testing.T) {
	margins, edges := [4]int{900, 2, 901, 1}, [4]int{902, 40, 903, 30}
	negative := [4]int{-900, -20, -901, -10}
	for _, c := range []struct {
		b      api.Box
		within int
		want   [3]int
	}{
		{api.Box{Kind: api.Block, Width: api.Auto, Margins: margins, Edges: edges}, 100, [3]int{27, 97, 100}},
		{api.Box{Kind: api.Text, Width: api.Auto, Margins: margins, Edges: edges}, 74, [3]int{1, 71, 74}},
		{api.Box{Kind: api.Root, Width: api.Auto, Margins: margins, Edges: edges}, 73, [3]int{0, 70, 73}},
		{api.Box{Kind: api.Block, Width: api.Auto, Margins: margins, Edges: edges}, 72, [3]int{0, 70, 73}},
		{api.Box{Kind: api.Block, Width: api.Auto, Margins: margins, Edges: edges}, -far, [3]int{0, 70, 73}},
		{api.Box{Kind: api.Block, Width: api.Auto, Margins: negative}, 100, [3]int{130, 130, 100}},
		{api.Box{Kind: api.Block, Width: api.Auto, Margins: negative}, -29, [3]int{1, 1, -29}},
		{api.Box{Kind: api.Block, Width: api.Auto, Margins: negative}, -31, [3]int{0, 0, -30}},
		{api.Box{Kind: api.Text, Width: api.Auto, Margins: negative, Edges: edges}, 100, [3]int{60, 130, 100}},
		{api.Box{Kind: api.Root, Width: api.Auto}, 0, [3]int{0, 0, 0}},
		{api.Box{Kind: api.Root, Width: api.Auto}, -1, [3]int{0, 0, 0}},
		{api.Box{Kind: api.Block, Width: api.Auto}, far, [3]int{far, far, far}},
		{api.Box{Kind: api.Block, Width: api.Auto, Margins: [4]int{0, -big, 0, -big}}, far, [3]int{far + 2*big, far + 2*big, far}},
		{api.Box{Kind: api.Block, Width: api.Auto, Margins: [4]int{0, big, 0, big}, Edges: [4]int{0, big, 0, big}}, far, [3]int{far - 4*big, far - 2*big, far}},
		{api.Box{Kind: api.Block, Width: 0, Margins: margins, Edges: edges}, 100, [3]int{0, 70, 73}},
		{api.Box{Kind: api.Float, Side: api.Left, Width: 8, Margins: margins, Edges: edges}, 3, [3]int{8, 78, 81}},
		{api.Box{Kind: api.Float, Side: api.Right, Width: 8, Margins: negative}, 3, [3]int{8, 8, -22}},
		{api.Box{Kind: api.Root, Width: big, Edges: edges}, 0, [3]int{big, big + 70, big + 70}},
		{api.Box{Kind: api.Atom, Width: 6}, -4, [3]int{6, 6, 6}},
		{api.Box{Kind: api.Atom, Width: 0}, 9, [3]int{0, 0, 0}},
	} {
		if e := record.Check(c.b); e != api.OK {
			t.Error(c.b, e)
		}
		if a := answers(c.b, c.within); a != c.want {
			t.Error(c.b, c.within, a, c.want)
		}
	}
}

// The boxes that the tests below go through are of each kind, of Auto where a kind may be that, and of a Width.
func TestBoxesAreOfEachKind(t *testing.T) {
	of := map[[2]int]int{}
	for _, b := range boxes() {
		of[[2]int{b.Kind, b.Width}]++
	}
	for _, kind := range kinds {
		mayBeAuto := kind != api.Float && kind != api.Atom
		if of[[2]int{kind, 0}] == 0 || of[[2]int{kind, big}] == 0 || (of[[2]int{kind, api.Auto}] > 0) != mayBeAuto {
			t.Error(kind, of)
		}
	}
}

// P8.1: a Width counts whatever the content around is wide.
func TestWidthCounts(t *testing.T) {
	for _, b := range boxes() {
		if b.Width == api.Auto {
			continue
		}
		for _, within := range withins(b) {
			if content := width.Content(b, within); content != b.Width {
				t.Error(b, within, content)
			}
		}
	}
}

// P8.1: a box of Auto has what its margins and edges leave, and no less than 0.
func TestAuto(t *testing.T) {
	for _, b := range boxes() {
		if b.Width != api.Auto {
			continue
		}
		taken := takenBy(b)
		for _, within := range withins(b) {
			want := within - taken
			if within < taken {
				want = 0
			}
			if content := width.Content(b, within); content != want {
				t.Error(b, within, content, want)
			}
		}
		for more, want := range map[int]int{-1: 0, 0: 0, 1: 1, 2: 2} {
			if content := width.Content(b, taken+more); content != want {
				t.Error(b, more, content, want)
			}
		}
	}
}

// P8.1: a box of Auto whose margins and edges leave something takes just what the content around is wide.
func TestAutoTakesAll(t *testing.T) {
	for _, b := range boxes() {
		if b.Width != api.Auto {
			continue
		}
		for _, within := range withins(b) {
			if a := answers(b, within); within >= takenBy(b) && a[2] != within {
				t.Error(b, within, a)
			}
		}
	}
}

// P8.1: Border is with both edges, Margin with both margins too, of any content.
func TestBorderAndMargin(t *testing.T) {
	for _, b := range boxes() {
		for _, content := range contents {
			border := content + b.Edges[1] + b.Edges[3]
			if n := width.Border(b, content); n != border {
				t.Error(b, content, n, border)
			}
			if n, want := width.Margin(b, content), border+b.Margins[1]+b.Margins[3]; n != want {
				t.Error(b, content, n, want)
			}
		}
	}
}

// P8.1: right and left each count once, margins and edges alike.
func TestEachSideCounts(t *testing.T) {
	for i, counts := range []int{0, 1, 0, 1} {
		margin := api.Box{Kind: api.Block, Width: api.Auto}
		margin.Margins[i] = 4
		if a, want := answers(margin, 10), [3]int{10 - 4*counts, 10 - 4*counts, 10}; a != want {
			t.Error(i, a, want)
		}
		edge := api.Box{Kind: api.Block, Width: api.Auto}
		edge.Edges[i] = 4
		if a, want := answers(edge, 10), [3]int{10 - 4*counts, 10, 10}; a != want {
			t.Error(i, a, want)
		}
	}
}

// P8.1: what lies at the top and the bottom, and what isn't told of right and left, counts for nothing.
func TestOthersCountForNothing(t *testing.T) {
	for _, b := range boxes() {
		if b.Kind == api.Atom {
			continue
		}
		other := b
		other.Depth, other.Clear, other.Height = 200, api.Both, big
		other.Margins[0], other.Margins[2] = -big, big
		other.Edges[0], other.Edges[2] = big, 11
		if e := record.Check(other); e != api.OK {
			t.Fatal(other, e)
		}
		for _, within := range withins(b) {
			if answers(b, within) != answers(other, within) {
				t.Error(b, within, answers(b, within), answers(other, within))
			}
		}
	}
}

// P8.1: boxes of the same numbers are as wide as each other, whatever kind they are of.
func TestKindCountsForNothing(t *testing.T) {
	for _, b := range boxes() {
		for _, kind := range kinds {
			other := b
			other.Kind, other.Side = kind, api.None
			if kind == api.Float {
				other.Side = api.Right
			}
			if record.Check(other) != api.OK {
				continue
			}
			for _, within := range withins(b) {
				if answers(b, within) != answers(other, within) {
					t.Error(b, kind, within)
				}
			}
		}
	}
}

// K7: no box and no number makes a call panic, of those that may not be either.
func TestNoPanic(t *testing.T) {
	numbers := []int{math.MinInt, math.MinInt + 1, -far - 1, -2, 0, 6, far + 1, math.MaxInt - 1, math.MaxInt}
	for _, n := range numbers {
		for _, wide := range append(numbers, api.Auto) {
			b := api.Box{Depth: n, Kind: n, Side: n, Clear: n, Width: wide, Height: n}
			b.Margins, b.Edges = [4]int{n, n, n, n}, [4]int{n, n, n, n}
			for _, within := range numbers {
				answers(b, within)
			}
		}
	}
}
