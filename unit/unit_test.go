package unit_test

import (
	"errors"
	"fmt"
	"math"
	"math/big"
	"runtime"
	"testing"

	"runaround/api"
	"runaround/unit"
)

const top = 1<<48 - 1

// P1.1, P1.2: the limit itself.
func TestMost(t *testing.T) {
	if unit.Most != 281474976710656 {
		t.Error(unit.Most)
	}
}

// P1.1: at the limit's both sides, and where the limits of int lie.
func TestAddAndSub(t *testing.T) {
	for _, x := range []struct {
		a, b, add, sub int
		added, taken   bool
	}{
		{0, 0, 0, 0, true, true},
		{3, 4, 7, -1, true, true},
		{-3, 4, 1, -7, true, true},
		{1 << 47, 1 << 47, 0, 0, false, true},
		{1 << 47, 1<<47 - 1, top, 1, true, true},
		{-1 << 47, -1 << 47, 0, 0, false, true},
		{-1 << 47, 1 << 47, 0, 0, true, false},
		{-1 << 47, 1<<47 - 1, -1, -top, true, true},
		{top, 0, top, top, true, true},
		{top - 1, 1, top, top - 2, true, true},
		{top - 1, 2, 0, top - 3, false, true},
		{top, 1, 0, top - 1, false, true},
		{top, -1, top - 1, 0, true, false},
		{top, top, 0, 0, false, true},
		{top, -top, 0, 0, true, false},
		{-top, 0, -top, -top, true, true},
		{1 - top, -1, -top, 2 - top, true, true},
		{1 - top, 1, 2 - top, -top, true, true},
		{-top, 1, 1 - top, 0, true, false},
		{-top, -1, 0, 1 - top, false, true},
		{0, top, top, -top, true, true},
		{0, -top, -top, top, true, true},
		{unit.Most, 0, 0, 0, false, false},
		{unit.Most, -1, 0, 0, false, false},
		{unit.Most, 1, 0, 0, false, false},
		{0, unit.Most, 0, 0, false, false},
		{-1, unit.Most, 0, 0, false, false},
		{unit.Most, unit.Most, 0, 0, false, false},
		{-unit.Most, 0, 0, 0, false, false},
		{-unit.Most, 1, 0, 0, false, false},
		{0, -unit.Most, 0, 0, false, false},
		{-1, -unit.Most, 0, 0, false, false},
		{math.MaxInt, math.MaxInt, 0, 0, false, false},
		{math.MaxInt, math.MinInt, 0, 0, false, false},
		{math.MinInt, math.MinInt, 0, 0, false, false},
		{math.MinInt, math.MaxInt, 0, 0, false, false},
		{0, math.MinInt, 0, 0, false, false},
		{-1, math.MinInt, 0, 0, false, false},
	} {
		if n, ok := unit.Add(x.a, x.b); n != x.add || ok != x.added {
			t.Error("Add", x.a, x.b, "answers", n, ok)
		}
		if n, ok := unit.Sub(x.a, x.b); n != x.sub || ok != x.taken {
			t.Error("Sub", x.a, x.b, "answers", n, ok)
		}
	}
}

// edges are numbers at which reckoning may turn.
func edges() []int {
	l := []int{0, math.MaxInt, math.MinInt, math.MinInt + 1}
	for _, n := range []int{1, 2, 1<<47 - 1, 1 << 47, 1<<47 + 1, top - 1, top, unit.Most, unit.Most + 1, 1 << 62} {
		l = append(l, n, -n)
	}
	return l
}

func mayBe(n *big.Int) bool { return n.CmpAbs(big.NewInt(unit.Most)) < 0 }

// reckoned is what should come of a and b, where no number wraps round.
func reckoned(a, b int, op func(z, x, y *big.Int) *big.Int) (int, bool) {
	x, y := big.NewInt(int64(a)), big.NewInt(int64(b))
	z := op(new(big.Int), x, y)
	if !mayBe(x) || !mayBe(y) || !mayBe(z) {
		return 0, false
	}
	return int(z.Int64()), true
}

// P1.1, P1.2: Add and Sub, and Plus and Minus, of each two edges.
func TestAgainstBigNumbers(t *testing.T) {
	for _, x := range []struct {
		name  string
		tells func(a, b int) (int, bool)
		ends  func(a, b int) int
		op    func(z, x, y *big.Int) *big.Int
	}{
		{"Add, Plus", unit.Add, unit.Plus, (*big.Int).Add},
		{"Sub, Minus", unit.Sub, unit.Minus, (*big.Int).Sub},
	} {
		for _, a := range edges() {
			for _, b := range edges() {
				want, may := reckoned(a, b, x.op)
				if n, ok := x.tells(a, b); n != want || ok != may {
					t.Error(x.name, a, b, "tells", n, ok)
				}
				n, behind := 0, false
				e := unit.Try(func() {
					n = x.ends(a, b)
					behind = true
				})
				if n != want || behind != may || (e == api.OK) != may || (e == api.ErrOver) == may {
					t.Error(x.name, a, b, "ends with", n, behind, e)
				}
			}
		}
	}
}

// P1.1: Sum, also of none, and of what goes over on the way.
func TestSum(t *testing.T) {
	for _, x := range []struct {
		l   []int
		sum int
		ok  bool
	}{
		{nil, 0, true},
		{[]int{}, 0, true},
		{[]int{7}, 7, true},
		{[]int{1, -2, 5}, 4, true},
		{[]int{top}, top, true},
		{[]int{-top}, -top, true},
		{[]int{unit.Most}, 0, false},
		{[]int{-unit.Most}, 0, false},
		{[]int{unit.Most, -1}, 0, false},
		{[]int{-1, unit.Most}, 0, false},
		{[]int{top, 1}, 0, false},
		{[]int{top, 1, -1}, 0, false},
		{[]int{top, -1, 1}, top, true},
		{[]int{-top, -1, 1}, 0, false},
		{[]int{-top, 1, -1}, -top, true},
		{[]int{top, -top, -top, top}, 0, true},
		{[]int{5, 1 << 62, 1 << 62, 1 << 62, 1 << 62}, 0, false},
		{[]int{math.MinInt, math.MinInt}, 0, false},
	} {
		if n, ok := unit.Sum(x.l...); n != x.sum || ok != x.ok {
			t.Error("Sum", x.l, "answers", n, ok)
		}
	}
	if n, ok := unit.Sum(); n != 0 || !ok {
		t.Error("Sum of none answers", n, ok)
	}
}

// K5: what is handed in stays as it is.
func TestSumLeavesItsList(t *testing.T) {
	l := []int{top, 1, -1}
	unit.Sum(l...)
	if s := fmt.Sprint(l); s != fmt.Sprint([]int{top, 1, -1}) {
		t.Error(s)
	}
}

// P1.2: do is called, once, and nothing went over.
func TestTryIsOK(t *testing.T) {
	calls := 0
	e := unit.Try(func() {
		calls++
		if n, m := unit.Plus(top, -1), unit.Minus(-top, -1); n != top-1 || m != 1-top {
			t.Error(n, m)
		}
	})
	if e != api.OK || calls != 1 {
		t.Error(e, calls)
	}
}

// P1.2: what was done ahead stays done, what stands behind isn't done, what is deferred is.
func TestTryEndsThere(t *testing.T) {
	for _, over := range []func(){
		func() { unit.Plus(top, 1) },
		func() { unit.Plus(unit.Most, -1) },
		func() { unit.Minus(-top, 1) },
		func() { unit.Minus(0, math.MinInt) },
	} {
		trace, calls := "", 0
		e := unit.Try(func() {
			calls++
			defer func() { trace += "deferred" }()
			trace += "ahead "
			over()
			trace += "behind "
		})
		if e != api.ErrOver || trace != "ahead deferred" || calls != 1 {
			t.Error(e, trace, calls)
		}
	}
}

// P1.2: Add, Sub and Sum tell, and don't end what Try does.
func TestTellingEndsNothing(t *testing.T) {
	behind := false
	e := unit.Try(func() {
		unit.Add(top, 1)
		unit.Sub(-top, 1)
		unit.Sum(top, 1)
		behind = true
	})
	if e != api.OK || !behind {
		t.Error(e, behind)
	}
}

// P1.2: a Try within a Try ends by itself.
func TestTryWithinTry(t *testing.T) {
	over := func() { unit.Plus(top, top) }
	fine := func() { unit.Plus(1, 1) }
	for _, x := range []struct {
		inner, then  func()
		first, whole api.Errno
	}{
		{fine, fine, api.OK, api.OK},
		{over, fine, api.ErrOver, api.OK},
		{fine, over, api.OK, api.ErrOver},
		{over, over, api.ErrOver, api.ErrOver},
	} {
		first := api.ErrNone
		whole := unit.Try(func() {
			first = unit.Try(x.inner)
			x.then()
		})
		if first != x.first || whole != x.whole {
			t.Error(first, whole, "in place of", x.first, x.whole)
		}
	}
}

// P1.2: what goes over ends the innermost Try around it, and no other.
func TestTryEndsTheInnermost(t *testing.T) {
	trace := ""
	e := unit.Try(func() {
		e := unit.Try(func() {
			e := unit.Try(func() { unit.Minus(-top, top) })
			trace += fmt.Sprint(e == api.ErrOver, " ")
			unit.Plus(unit.Most, 0)
			trace += "never "
		})
		trace += fmt.Sprint(e == api.ErrOver, " behind")
	})
	if e != api.OK || trace != "true true behind" {
		t.Error(e, trace)
	}
}

// panicked is what do panics with; nil, if it doesn't.
func panicked(do func()) (r any) {
	defer func() { r = recover() }()
	do()
	return nil
}

// P1.2: a panic of do's own goes on, through each Try, as it was.
func TestOwnPanicGoesOn(t *testing.T) {
	mine := errors.New("mine")
	for _, v := range []any{"mine", 7, mine, api.ErrOver, api.OK, struct{}{}, &struct{ n int }{1}} {
		own := func() { panic(v) }
		afterOver := func() {
			unit.Try(func() { unit.Plus(top, 1) })
			panic(v)
		}
		for i, do := range []func(){own, afterOver} {
			if r := panicked(func() { unit.Try(do) }); r != v {
				t.Errorf("%d: %v in place of %v", i, r, v)
			}
			if r := panicked(func() { unit.Try(func() { unit.Try(do) }) }); r != v {
				t.Errorf("%d, within another: %v in place of %v", i, r, v)
			}
		}
	}
}

// P1.2: so do panics that the language makes.
func TestPanicOfTheLanguageGoesOn(t *testing.T) {
	none := []int(nil)
	r := panicked(func() { unit.Try(func() { none[0] = 1 }) })
	if _, ok := r.(runtime.Error); !ok {
		t.Error(r)
	}
	r = panicked(func() { unit.Try(func() { panic(nil) }) })
	if _, ok := r.(*runtime.PanicNilError); !ok {
		t.Error(r)
	}
}

// K6: a Try that ended leaves nothing for the next one.
func TestTryForgets(t *testing.T) {
	unit.Try(func() { unit.Plus(top, 1) })
	panicked(func() { unit.Try(func() { panic("mine") }) })
	if e := unit.Try(func() {}); e != api.OK {
		t.Error(e)
	}
}
