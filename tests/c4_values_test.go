package tests

import (
	"math"
	"slices"
	"testing"

	"loop.example/strideviews/impl"
)

func TestLimitOfViews(t *testing.T) {
	if impl.MaxViews != 8 {
		t.Errorf("the limit is %d", impl.MaxViews)
	}
}

// TestOverlapValues checks what two views have in common, and that it is the same the other way round.
func TestOverlapValues(t *testing.T) {
	for _, c := range []struct {
		a, b      impl.View
		want      []int
		may       bool
		aCoversB  bool
		bCoversA  bool
		rankA     int
		rankB     int
		witnessed bool
	}{
		// Lines that meet, upwards and downwards.
		{vw(0, ints(4), 3), vw(1, ints(4), 2), ints(3), true, false, false, 1, 1, true},
		{vw(0, ints(10), 1), vw(5, ints(10), 1), ints(5, 6, 7, 8, 9), true, false, false, 5, 0, true},
		{vw(9, ints(10), -1), vw(5, ints(10), 1), ints(5, 6, 7, 8, 9), true, false, false, 4, 0, true},
		{vw(0, ints(20), 3), vw(59, ints(30), -2), ints(3, 9, 15, 21, 27, 33, 39, 45, 51, 57), true, false, false, 1, 28, true},
		{vw(0, ints(10), 1), vw(0, ints(4), 3), ints(0, 3, 6, 9), true, true, false, 0, 0, true},
		{vw(0, ints(60), 1), vw(59, ints(60), -1), firstNumbers(60), true, true, true, 0, 59, true},
		// Views that interlace have bounds that meet, but no cells in common.
		{vw(0, ints(30), 2), vw(1, ints(30), 2), nil, true, false, false, -1, -1, false},
		{vw(0, ints(4), 3), vw(1, ints(3), 3), nil, true, false, false, -1, -1, false},
		{vw(0, ints(2), 59), vw(30, nil), nil, true, false, false, -1, -1, false},
		{vw(0, ints(4, 3), 6, 1), vw(3, ints(4, 3), 6, 1), nil, true, false, false, -1, -1, false},
		{vw(0, ints(4, 4), 6, 1), vw(3, ints(4, 3), 6, 1), ints(3, 9, 15, 21), true, false, false, 3, 0, true},
		// Bounds meet in one cell, which may be one of both, or just follow each other.
		{vw(0, ints(3), 1), vw(2, ints(3), 1), ints(2), true, false, false, 2, 0, true},
		{vw(0, ints(3), 1), vw(3, ints(3), 1), nil, false, false, false, -1, -1, false},
		{vw(4, ints(3), -2), vw(4, ints(3), 2), ints(4), true, false, false, 0, 0, true},
		{vw(4, ints(3), -2), vw(5, ints(3), 2), nil, false, false, false, -1, -1, false},
		// Cells that repeat are told once, and found at their first index.
		{vw(0, ints(2, 2), 1, 1), vw(1, ints(3), 0), ints(1), true, true, false, 1, 0, true},
		{vw(7, ints(60), 0), vw(7, ints(60), 0), ints(7), true, true, true, 0, 0, true},
		{vw(2, ints(3, 3), -1, 1), vw(0, ints(3, 2), 1, 2), firstNumbers(5), true, true, true, 6, 0, true},
		{vw(2, ints(3, 3), -1, 1), vw(4, ints(3, 3), -1, 0), ints(2, 3, 4), true, true, false, 0, 6, true},
		// The least common cell is not that with the least ranks.
		{vw(9, ints(5), -1), vw(8, ints(2), -2), ints(6, 8), true, true, false, 3, 1, true},
		{vw(7, nil), vw(7, ints(1, 1), 60, -60), ints(7), true, true, true, 0, 0, true},
		{vw(7, nil), vw(8, nil), nil, false, false, false, -1, -1, false},
		// Without indices there are no cells, which all views cover.
		{vw(5, ints(0), 1), vw(5, nil), nil, false, false, true, -1, -1, false},
		{vw(60, ints(3, 0), 1, 1), vw(0, ints(60), 1), nil, false, false, true, -1, -1, false},
		{vw(5, ints(0), 1), vw(5, ints(0), 1), nil, false, true, true, -1, -1, false},
		{vw(5, ints(0), 1), vw(60, ints(0, 0), 60, 60), nil, false, true, true, -1, -1, false},
	} {
		if got, other := impl.OverlapOf(c.a, c.b), impl.OverlapOf(c.b, c.a); !slices.Equal(got, c.want) || !slices.Equal(other, c.want) {
			t.Errorf("OverlapOf(%v, %v) = %v, and the other way round %v, not %v", c.a, c.b, got, other, c.want)
		}
		if impl.DoOverlap(c.a, c.b) != c.witnessed || impl.DoOverlap(c.b, c.a) != c.witnessed {
			t.Errorf("DoOverlap(%v, %v) = %v", c.a, c.b, !c.witnessed)
		}
		if impl.MayOverlap(c.a, c.b) != c.may || impl.MayOverlap(c.b, c.a) != c.may {
			t.Errorf("MayOverlap(%v, %v) = %v, and the other way round %v", c.a, c.b, impl.MayOverlap(c.a, c.b), impl.MayOverlap(c.b, c.a))
		}
		if impl.CoversView(c.a, c.b) != c.aCoversB || impl.CoversView(c.b, c.a) != c.bCoversA {
			t.Errorf("CoversView(%v, %v) = %v, and the other way round %v", c.a, c.b, impl.CoversView(c.a, c.b), impl.CoversView(c.b, c.a))
		}
		if x, y, ok := impl.WitnessOf(c.a, c.b); x != c.rankA || y != c.rankB || ok != c.witnessed {
			t.Errorf("WitnessOf(%v, %v) = %d, %d, %v", c.a, c.b, x, y, ok)
		}
		if y, x, ok := impl.WitnessOf(c.b, c.a); x != c.rankA || y != c.rankB || ok != c.witnessed {
			t.Errorf("WitnessOf(%v, %v) = %d, %d, %v", c.b, c.a, y, x, ok)
		}
	}
}

func TestCellsRepeatsAndGapsValues(t *testing.T) {
	for _, c := range []struct {
		v                    impl.View
		cells, repeats, gaps []int
	}{
		{vw(5, ints(3), -2), ints(1, 3, 5), nil, ints(2, 4)}, {vw(0, ints(4), 3), ints(0, 3, 6, 9), nil, ints(1, 2, 4, 5, 7, 8)}, {vw(0, ints(60), 1), firstNumbers(60), nil, nil}, {vw(59, ints(60), -1), firstNumbers(60), nil, nil},
		{vw(0, ints(2), 59), ints(0, 59), nil, plainNumbers(rng(1, 59, 1))}, {vw(59, ints(2), -59), ints(0, 59), nil, plainNumbers(rng(1, 59, 1))},
		// Some cells repeat twice or more often, some do not.
		{vw(0, ints(2, 2), 1, 1), ints(0, 1, 2), ints(1), nil}, {vw(4, ints(3, 3), 1, 1), ints(4, 5, 6, 7, 8), ints(5, 6, 7), nil}, {vw(0, ints(2, 4), 4, 2), ints(0, 2, 4, 6, 8, 10), ints(4, 6), ints(1, 3, 5, 7, 9)}, {vw(9, ints(2, 3), -2, 2), ints(7, 9, 11, 13), ints(9, 11), ints(8, 10, 12)},
		{vw(7, ints(60), 0), ints(7), ints(7), nil}, {vw(7, ints(2), 0), ints(7), ints(7), nil}, {vw(5, ints(3, 2), 0, 1), ints(5, 6), ints(5, 6), nil}, {vw(5, ints(3, 2), 0, 9), ints(5, 14), ints(5, 14), plainNumbers(rng(6, 14, 1))},
		{vw(0, ints(2, 2, 2, 2), 1, 2, 4, 8), firstNumbers(16), nil, nil}, {vw(0, ints(2, 2, 2, 2), 1, 2, 3, 6), firstNumbers(13), ints(3, 6, 9), nil},
		// Gaps of several cells behind each row.
		{vw(2, ints(3, 2), 5, 1), ints(2, 3, 7, 8, 12, 13), nil, ints(4, 5, 6, 9, 10, 11)}, {vw(20, ints(2, 2), -10, 1), ints(10, 11, 20, 21), nil, plainNumbers(rng(12, 20, 1))},
		// One cell, and none.
		{vw(7, nil), ints(7), nil, nil}, {vw(0, nil), ints(0), nil, nil}, {vw(59, ints(1), 60), ints(59), nil, nil}, {vw(7, ints(1, 1, 1, 1), 60, -60, 0, 1), ints(7), nil, nil},
		{vw(5, ints(0), 1), nil, nil, nil}, {vw(60, ints(0), 60), nil, nil, nil}, {vw(60, ints(60, 0), 1, 1), nil, nil, nil}, {vw(0, ints(0, 2), 0, 0), nil, nil, nil},
	} {
		if got := impl.CellsOf(c.v); !slices.Equal(got, c.cells) {
			t.Errorf("CellsOf(%v) = %v, not %v", c.v, got, c.cells)
		}
		if got := impl.RepeatsOf(c.v); !slices.Equal(got, c.repeats) {
			t.Errorf("RepeatsOf(%v) = %v, not %v", c.v, got, c.repeats)
		}
		if got := impl.GapsOf(c.v); !slices.Equal(got, c.gaps) {
			t.Errorf("GapsOf(%v) = %v, not %v", c.v, got, c.gaps)
		}
	}
}

func TestLineOfValues(t *testing.T) {
	for _, c := range []struct {
		v    impl.View
		want impl.Range
	}{
		{vw(0, ints(4), 3), rng(0, 10, 3)}, {vw(9, ints(4), -3), rng(0, 10, 3)}, {vw(0, ints(60), 1), rng(0, 60, 1)}, {vw(59, ints(60), -1), rng(0, 60, 1)}, {vw(0, ints(2), 59), rng(0, 60, 59)}, {vw(59, ints(2), -59), rng(0, 60, 59)},
		// One cell, whatever the stride, also where many indices have it.
		{vw(7, ints(1), 60), rng(7, 8, 1)}, {vw(7, ints(1), -60), rng(7, 8, 1)}, {vw(7, ints(1), 0), rng(7, 8, 1)}, {vw(59, ints(1), 1), rng(59, 60, 1)}, {vw(7, ints(2), 0), rng(7, 8, 1)}, {vw(0, ints(60), 0), rng(0, 1, 1)},
		{vw(5, ints(0), 1), noRange}, {vw(60, ints(0), -60), noRange}, {vw(60, ints(0), 0), noRange},
		// Views of no dimension, or of several ones, also where they could be lines.
		{vw(7, nil), impl.Range{}}, {vw(0, ints(2, 3), 3, 1), impl.Range{}}, {vw(0, ints(1, 3), 3, 1), impl.Range{}}, {vw(0, ints(3, 1), 1, 0), impl.Range{}}, {vw(0, ints(0, 0), 0, 0), impl.Range{}}, {vw(0, ints(1, 1, 1, 1), 0, 0, 0, 0), impl.Range{}},
	} {
		if got := impl.LineOf(c.v); got != c.want {
			t.Errorf("LineOf(%v) = %v, not %v", c.v, got, c.want)
		}
	}
}

// cellViews returns a list of n views, each of which has one cell.
func cellViews(n int) []impl.View {
	var list []impl.View
	for x := range n {
		list = append(list, vw(x, nil))
	}
	return list
}

// emptyViews returns a list of n views without cells.
func emptyViews(n int) []impl.View {
	return slices.Repeat([]impl.View{vw(60, ints(0), 60)}, n)
}

func TestTilesOfValues(t *testing.T) {
	a, b := vw(0, ints(3), 2), vw(1, ints(3), 2)
	for _, c := range []struct {
		list []impl.View
		size int
		want bool
	}{
		{[]impl.View{a, b}, 6, true}, {[]impl.View{b, a}, 6, true}, {[]impl.View{vw(4, ints(3), -2), vw(5, ints(3), -2)}, 6, true}, {[]impl.View{vw(0, ints(60), 1)}, 60, true}, {[]impl.View{vw(59, ints(3, 20), -1, -3)}, 60, true},
		{[]impl.View{vw(0, ints(2, 2), 4, 1), vw(2, ints(2, 2), 4, 1)}, 8, true}, {[]impl.View{vw(0, ints(2, 2), 4, 1), vw(3, ints(2, 2), 4, -1)}, 8, true}, {cellViews(8), 8, true}, {cellViews(1), 1, true},
		// Views without cells tile none, and do not matter beside others.
		{nil, 0, true}, {emptyViews(1), 0, true}, {emptyViews(8), 0, true}, {append(emptyViews(6), a, b), 6, true}, {nil, 1, false}, {emptyViews(8), 1, false},
		// A cell is not there, or is too much.
		{[]impl.View{a, b}, 7, false}, {[]impl.View{a, b}, 5, false}, {[]impl.View{a}, 6, false}, {[]impl.View{a}, 3, false}, {[]impl.View{a}, 5, false}, {[]impl.View{b}, 3, false}, {[]impl.View{vw(1, ints(6), 1)}, 6, false}, {[]impl.View{a, b}, 0, false}, {[]impl.View{vw(0, ints(59), 1)}, 60, false}, {[]impl.View{vw(0, ints(60), 1)}, 59, false},
		// A cell is one of two views, or has two indices of one.
		{[]impl.View{a, b, vw(0, nil)}, 6, false}, {[]impl.View{a, b, a}, 6, false}, {[]impl.View{vw(0, ints(4), 1), vw(3, ints(3), 1)}, 6, false}, {[]impl.View{vw(0, ints(2, 2), 1, 1)}, 3, false}, {[]impl.View{vw(0, ints(2), 0)}, 1, false}, {[]impl.View{vw(0, ints(2), 0), vw(1, nil)}, 2, false}, {[]impl.View{vw(0, ints(2, 3), 0, 1)}, 3, false},
		// As many cells as there should be, but not the right ones.
		{[]impl.View{vw(0, ints(2), 0)}, 2, false}, {[]impl.View{vw(0, ints(3), 2)}, 3, false}, {[]impl.View{vw(0, nil), vw(0, nil)}, 2, false}, {[]impl.View{vw(0, nil), vw(2, nil)}, 2, false},
		// Too many views, and sizes that no memory has.
		{cellViews(9), 9, false}, {emptyViews(9), 0, false}, {append(emptyViews(7), a, b), 6, false}, {nil, -1, false}, {nil, 61, false}, {[]impl.View{vw(0, ints(60), 1)}, 61, false}, {emptyViews(1), -1, false}, {nil, math.MaxInt, false}, {nil, math.MinInt, false},
	} {
		if got := impl.TilesOf(c.list, c.size); got != c.want {
			t.Errorf("TilesOf(%v, %d) = %v", c.list, c.size, got)
		}
	}
}

func TestHoldersOfValues(t *testing.T) {
	list := []impl.View{vw(0, ints(3), 2), vw(1, ints(3), 2), vw(9, ints(5), -2), vw(5, ints(0), 1), vw(0, ints(2, 2), 1, 1), vw(3, nil)}
	for _, c := range []struct {
		list []impl.View
		x    int
		want []int
	}{
		{list, 0, ints(0, 4)}, {list, 1, ints(1, 2, 4)}, {list, 2, ints(0, 4)}, {list, 3, ints(1, 2, 5)}, {list, 4, ints(0)}, {list, 5, ints(1, 2)}, {list, 6, nil}, {list, 8, nil}, {list, 9, ints(2)}, {list, 10, nil}, {list, 59, nil},
		// A cell before those of all views, and behind the last one of a memory.
		{list, -1, nil}, {list, 60, nil}, {list, math.MaxInt, nil}, {list, math.MinInt, nil}, {nil, 0, nil}, {nil, -1, nil}, {emptyViews(8), 60, nil}, {emptyViews(8), -1, nil}, {emptyViews(8), 0, nil},
		{cellViews(8), 7, ints(7)}, {cellViews(8), 8, nil}, {slices.Repeat([]impl.View{vw(59, ints(60), -1)}, 8), 59, firstNumbers(8)}, {slices.Repeat([]impl.View{vw(59, ints(60), -1)}, 8), 0, firstNumbers(8)},
		{cellViews(9), 0, nil}, {cellViews(9), 8, nil}, {append(emptyViews(8), vw(0, nil)), 0, nil},
	} {
		if got := impl.HoldersOf(c.list, c.x); !slices.Equal(got, c.want) {
			t.Errorf("HoldersOf(%v, %d) = %v, not %v", c.list, c.x, got, c.want)
		}
	}
}

// TestOverlapOfBadViews checks the fixed results for views that are not valid, as the first one, as the second one, and as both.
func TestOverlapOfBadViews(t *testing.T) {
	for _, bad := range badViews() {
		pairs := [][2]impl.View{{bad, bad}}
		for _, v := range []impl.View{{}, vw(0, ints(60), 1), vw(60, ints(0), 1), {Base: bad.Base}, {Shape: ints(0), Strides: ints(0)}} {
			pairs = append(pairs, [2]impl.View{bad, v}, [2]impl.View{v, bad})
		}
		for _, p := range pairs {
			if got := impl.OverlapOf(p[0], p[1]); len(got) != 0 {
				t.Errorf("OverlapOf(%v, %v) = %v", p[0], p[1], got)
			}
			if impl.DoOverlap(p[0], p[1]) || impl.MayOverlap(p[0], p[1]) || impl.CoversView(p[0], p[1]) {
				t.Errorf("%v and %v: DoOverlap = %v, MayOverlap = %v, CoversView = %v", p[0], p[1], impl.DoOverlap(p[0], p[1]), impl.MayOverlap(p[0], p[1]), impl.CoversView(p[0], p[1]))
			}
			if x, y, ok := impl.WitnessOf(p[0], p[1]); x != -1 || y != -1 || ok {
				t.Errorf("WitnessOf(%v, %v) = %d, %d, %v", p[0], p[1], x, y, ok)
			}
		}
		if cells, repeats, gaps := impl.CellsOf(bad), impl.RepeatsOf(bad), impl.GapsOf(bad); len(cells) != 0 || len(repeats) != 0 || len(gaps) != 0 {
			t.Errorf("%v: CellsOf = %v, RepeatsOf = %v, GapsOf = %v", bad, cells, repeats, gaps)
		}
		if got := impl.LineOf(bad); got != (impl.Range{}) {
			t.Errorf("LineOf(%v) = %v", bad, got)
		}
	}
}

// TestListsWithBadViews checks the fixed results for lists that would tile a memory, and hold its cells, without a view that is not valid.
func TestListsWithBadViews(t *testing.T) {
	good := []impl.View{vw(0, ints(3), 2), vw(1, ints(3), 2)}
	for _, bad := range badViews() {
		for at := 0; at <= len(good); at++ {
			list := slices.Insert(slices.Clone(good), at, bad)
			for _, size := range []int{0, 6} {
				if impl.TilesOf(list, size) {
					t.Errorf("TilesOf(%v, %d) holds", list, size)
				}
			}
			for _, x := range []int{-1, 0, 5, 60} {
				if got := impl.HoldersOf(list, x); len(got) != 0 {
					t.Errorf("HoldersOf(%v, %d) = %v", list, x, got)
				}
			}
		}
		if impl.TilesOf([]impl.View{bad}, 0) || len(impl.HoldersOf([]impl.View{bad}, bad.Base)) != 0 {
			t.Errorf("%v tiles a memory, or holds its base", bad)
		}
	}
}

// TestOverlapsAreFreshAndKept checks that no two results share memory, that no argument is changed, and that results are the same each time.
func TestOverlapsAreFreshAndKept(t *testing.T) {
	shape, strides := ints(3, 4, 77, 77), ints(6, 1, 77, 77)
	v, w := impl.View{Base: 1, Shape: shape[:2], Strides: strides[:2]}, vw(40, ints(5, 3), -10, 5)
	list := []impl.View{v, w, vw(0, ints(60), 1), {Base: 88}}
	call := func() [][]int {
		return [][]int{impl.OverlapOf(v, w), impl.OverlapOf(w, v), impl.OverlapOf(v, v), impl.CellsOf(v), impl.CellsOf(w), impl.RepeatsOf(w), impl.GapsOf(v), impl.GapsOf(w), impl.HoldersOf(list[:3], 10)}
	}
	before := call()
	for i, got := range call() {
		if len(got) < 2 || !slices.Equal(got, before[i]) {
			t.Fatalf("result %d is %v, and was %v", i, got, before[i])
		}
		for k := range got {
			got[k] = 44
		}
		_ = append(got, 55)
	}
	for range 20 {
		for i, got := range call() {
			if !slices.Equal(got, before[i]) || !slices.IsSorted(got) {
				t.Fatalf("result %d is %v, and was %v", i, got, before[i])
			}
		}
	}
	if !impl.DoOverlap(v, w) || !impl.MayOverlap(v, w) || impl.CoversView(v, w) || impl.TilesOf(list[:3], 60) || impl.LineOf(v) != (impl.Range{}) {
		t.Errorf("%v and %v are not what they were", v, w)
	}
	if !slices.Equal(shape, ints(3, 4, 77, 77)) || !slices.Equal(strides, ints(6, 1, 77, 77)) || !sameViews(w, vw(40, ints(5, 3), -10, 5)) {
		t.Errorf("an argument was changed: %v, %v, %v", shape, strides, w)
	}
	if !sameViews(list[0], v) || !sameViews(list[1], w) || !sameViews(list[2], vw(0, ints(60), 1)) || list[3].Base != 88 {
		t.Errorf("a list was changed: %v", list)
	}
}
