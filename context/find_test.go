package context_test

import (
	"math"
	"testing"

	"runaround/api"
	"runaround/context"
	"runaround/flow"
	"runaround/tree"
)

// finds tells it if a box isn't found where it is told to be.
func finds(t *testing.T, x *tree.Tree, r context.Result, want flow.Placed) {
	t.Helper()
	if got, ok := r.Find(x, want.At); got != want || !ok {
		t.Errorf("%v: Find of %d: %v, %v, not %v", boxesOf(x), want.At, got, ok, want)
	}
}

// findsNone tells it if there is something at a place.
func findsNone(t *testing.T, x *tree.Tree, r context.Result, at int) {
	t.Helper()
	if got, ok := r.Find(x, at); got != (flow.Placed{}) || ok {
		t.Errorf("%v: Find of %d: %v, %v", boxesOf(x), at, got, ok)
	}
}

// P18.2: boxes are where the contexts in which they stand have them: Floats and Roots, too, which have one of their own.
func TestFind(t *testing.T) {
	beside := root(2, api.Auto)
	beside.Edges, beside.Margins = [4]int{1, 1, 1, 1}, [4]int{0, 0, 0, 20}
	x := built(t, page(
		apart(2, 0, edged(3, 0, block(1, api.Auto))), float(2, 20, api.Auto), // 1 and 2
		apart(1, 0, block(3, 4)), float(3, 6, 9), block(4, 50), // 3 to 5
		beside, stuff(3), // 6 and 7
		text(1), atom(2, 5, 2), float(2, 4, api.Auto), stuff(3), // 8 to 11
	))
	r := context.All(x)
	for _, want := range []flow.Placed{
		placed(1, 0, 2, 40, 17), placed(2, 0, 5, 20, 19), placed(3, 0, 1, 20, 5), placed(4, 0, 5, 6, 14), placed(5, 0, 0, 6, 50),
		placed(6, 20, 5, 40, 17), placed(7, 0, 2, 18, 7),
		placed(8, 0, 17, 40, 19), placed(9, 24, 17, 29, 19), placed(10, 20, 17, 24, 27), placed(11, 0, 2, 4, 7),
	} {
		finds(t, x, r, want)
	}
	nowhere(t, x, r)
}

// P18.2: the first box stands in no context, and what is no place has no box.
func nowhere(t *testing.T, x *tree.Tree, r context.Result) {
	t.Helper()
	n := x.Len()
	for _, at := range []int{0, -1, -2, -n, n, n + 1, 2 * n, api.MaxBoxes, math.MinInt, math.MaxInt} {
		if at <= 0 || at >= n {
			findsNone(t, x, r, at)
		}
	}
}

// P18.2: of one Root alone nothing is found.
func TestFindInOneRoot(t *testing.T) {
	for _, height := range []int{api.Auto, 0, 7} {
		x := built(t, []api.Box{{Kind: api.Root, Width: 5, Height: height}})
		nowhere(t, x, context.All(x))
	}
}

// P18.2: a box that is where the zero Placed would be, but for its place, is found all the same.
func TestFindOfABoxWithoutSize(t *testing.T) {
	x := built(t, page(float(1, 0, api.Auto), float(2, 0, 0)))
	r := context.All(x)
	finds(t, x, r, placed(1, 0, 0, 0, 0))
	finds(t, x, r, placed(2, 0, 0, 0, 0))
	nowhere(t, x, r)
}

// K7: a Result that is empty, or that All gave of another tree, is asked nothing that makes it panic.
func TestFindInOtherResults(t *testing.T) {
	x := built(t, page(float(1, 5, api.Auto), block(2, 3), root(1, api.Auto), block(2, 4)))
	for _, r := range []context.Result{
		{},
		{Outputs: make([]flow.Output, 2)},
		context.All(built(t, page())),
		context.All(built(t, page(block(1, 3), block(1, 3), block(1, 3), block(1, 3)))),
	} {
		for at := range x.Len() {
			if got, ok := r.Find(x, at); !ok && got != (flow.Placed{}) || ok && got.At != at {
				t.Error(r, at, got, ok)
			}
		}
		nowhere(t, x, r)
	}
}
