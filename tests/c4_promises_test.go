package tests

import (
	"math"
	"slices"
	"testing"

	"loop.example/strideviews/impl"
)

func TestP49OverlapIsOfBoth(t *testing.T) {
	for a, b := range pairsOf(pairViews()) {
		got := impl.OverlapOf(a, b)
		if want := plainOverlap(a, b); !slices.Equal(got, want) {
			t.Fatalf("OverlapOf(%v, %v) = %v, not %v", a, b, got, want)
		}
		if other := impl.OverlapOf(b, a); !slices.Equal(got, other) {
			t.Fatalf("OverlapOf(%v, %v) = %v, but the other way round %v", a, b, got, other)
		}
	}
}

// TestP50WhatDoesOverlapMay needs views that interlace: their bounds meet, but they have no cell in common.
func TestP50WhatDoesOverlapMay(t *testing.T) {
	laced := 0
	for a, b := range pairsOf(pairViews()) {
		does, may := impl.DoOverlap(a, b), impl.MayOverlap(a, b)
		if does != (len(plainOverlap(a, b)) > 0) || does != (len(impl.OverlapOf(a, b)) > 0) || does != impl.DoOverlap(b, a) {
			t.Fatalf("DoOverlap(%v, %v) = %v", a, b, does)
		}
		if does && !may || may != impl.MayOverlap(b, a) {
			t.Fatalf("DoOverlap(%v, %v) = %v, but MayOverlap = %v", a, b, does, may)
		}
		if may && !does {
			laced++
		}
	}
	if laced == 0 {
		t.Fatal("no two views interlace")
	}
}

func TestP51BoundsAreEnoughForDenseViews(t *testing.T) {
	dense := map[bool]int{}
	for a, b := range pairsOf(pairViews()) {
		ofA, ofB := plainBetween(a), plainBetween(b)
		got := impl.MayOverlap(a, b)
		if want := slices.ContainsFunc(ofA, func(x int) bool { return slices.Contains(ofB, x) }); got != want {
			t.Fatalf("MayOverlap(%v, %v) = %v", a, b, got)
		}
		if len(impl.GapsOf(a)) > 0 || len(impl.GapsOf(b)) > 0 {
			continue
		}
		if got != impl.DoOverlap(a, b) {
			t.Fatalf("%v and %v have no gaps, and MayOverlap = %v, but DoOverlap = %v", a, b, got, impl.DoOverlap(a, b))
		}
		dense[got]++
	}
	if dense[true] == 0 || dense[false] == 0 {
		t.Fatalf("views without gaps overlap or not: %v", dense)
	}
}

func TestP52CoveredViewsOverlapInAll(t *testing.T) {
	covered := map[bool]int{}
	for a, b := range pairsOf(pairViews()) {
		got := impl.CoversView(a, b)
		times := plainTimes(a)
		if want := !slices.ContainsFunc(plainCells(b), func(x int) bool { return times[x] == 0 }); got != want {
			t.Fatalf("CoversView(%v, %v) = %v", a, b, got)
		}
		if got != slices.Equal(impl.OverlapOf(a, b), impl.CellsOf(b)) {
			t.Fatalf("CoversView(%v, %v) = %v, and OverlapOf = %v, and CellsOf = %v", a, b, got, impl.OverlapOf(a, b), impl.CellsOf(b))
		}
		if got && len(plainCells(b)) > 0 {
			covered[impl.CoversView(b, a)]++
		}
	}
	if covered[true] == 0 || covered[false] == 0 {
		t.Fatalf("covered views cover the other one or not: %v", covered)
	}
	for _, v := range manyViews() {
		if !impl.CoversView(v, v) {
			t.Fatalf("%v does not cover itself", v)
		}
	}
}

// TestP53WitnessesShareACell holds the ranks against walks that stop at the first index with the least common cell.
func TestP53WitnessesShareACell(t *testing.T) {
	for a, b := range pairsOf(pairViews()) {
		x, y, ok := impl.WitnessOf(a, b)
		common := plainOverlap(a, b)
		if len(common) == 0 {
			if x != -1 || y != -1 || ok {
				t.Fatalf("WitnessOf(%v, %v) = %d, %d, %v without a common cell", a, b, x, y, ok)
			}
			continue
		}
		if !ok || x != slices.Index(plainCells(a), common[0]) || y != slices.Index(plainCells(b), common[0]) {
			t.Fatalf("WitnessOf(%v, %v) = %d, %d, %v", a, b, x, y, ok)
		}
		one, _ := impl.OffsetAt(a, impl.IndexAt(a.Shape, x))
		other, _ := impl.OffsetAt(b, impl.IndexAt(b.Shape, y))
		if one != other || one != impl.OverlapOf(a, b)[0] {
			t.Fatalf("WitnessOf(%v, %v) = %d, %d with the cells %d and %d", a, b, x, y, one, other)
		}
	}
}

func TestP54CellsAreToldOnce(t *testing.T) {
	for _, v := range slices.Concat(lacedViews(), smallViews(), manyViews()) {
		got := impl.CellsOf(v)
		if !slices.Equal(got, plainMet(v, 1)) {
			t.Fatalf("CellsOf(%v) = %v, not %v", v, got, plainMet(v, 1))
		}
		if want := slices.Compact(slices.Sorted(slices.Values(impl.OffsetsOf(v)))); !slices.Equal(got, want) {
			t.Fatalf("CellsOf(%v) = %v, but OffsetsOf has just %v", v, got, want)
		}
	}
}

func TestP55RepeatedCellsHaveSeveralIndices(t *testing.T) {
	some := 0
	for _, v := range slices.Concat(lacedViews(), smallViews(), manyViews()) {
		got := impl.RepeatsOf(v)
		if !slices.Equal(got, plainMet(v, 2)) {
			t.Fatalf("RepeatsOf(%v) = %v, not %v", v, got, plainMet(v, 2))
		}
		for _, cell := range got {
			cells := impl.OffsetsOf(v)
			if first := slices.Index(cells, cell); first < 0 || !slices.Contains(cells[first+1:], cell) {
				t.Fatalf("RepeatsOf(%v) = %v, but OffsetsOf has %d only once", v, got, cell)
			}
		}
		// Some cells come again, and others do not.
		if len(got) > 0 && len(got) < len(impl.CellsOf(v)) {
			some++
		}
	}
	if some == 0 {
		t.Fatal("no view repeats some of its cells, but not all")
	}
}

func TestP56GapsAndCellsFillTheBounds(t *testing.T) {
	gaps := 0
	for _, v := range slices.Concat(lacedViews(), smallViews(), manyViews()) {
		got, between := impl.GapsOf(v), plainBetween(v)
		times := plainTimes(v)
		want := slices.DeleteFunc(slices.Clone(between), func(x int) bool { return times[x] > 0 })
		if !slices.Equal(got, want) {
			t.Fatalf("GapsOf(%v) = %v, not %v", v, got, want)
		}
		// With none in common, both together have each cell once.
		if both := slices.Sorted(slices.Values(slices.Concat(got, impl.CellsOf(v)))); !slices.Equal(both, between) {
			t.Fatalf("GapsOf(%v) and CellsOf together are %v, not %v", v, both, between)
		}
		if low, high := impl.BoundsOf(v); len(between) > 0 && (low != between[0] || high != between[len(between)-1]) {
			t.Fatalf("BoundsOf(%v) = %d, %d, but CellsOf are %v", v, low, high, impl.CellsOf(v))
		}
		gaps += len(got)
	}
	if gaps == 0 {
		t.Fatal("no view has gaps")
	}
}

func TestP57LinesAreRanges(t *testing.T) {
	lines := manyLines()
	for _, v := range lines {
		got, cells := impl.LineOf(v), plainMet(v, 1)
		if got != plainNormal(cells) {
			t.Fatalf("LineOf(%v) = %v, not %v", v, got, plainNormal(cells))
		}
		if got != impl.NormalRange(got) || !slices.Equal(impl.NumbersOf(got), impl.CellsOf(v)) {
			t.Fatalf("LineOf(%v) = %v, but CellsOf = %v", v, got, impl.CellsOf(v))
		}
	}
	meet := 0
	for a, b := range pairsOf(someOf(lines, 1+len(lines)/200)) {
		numbers := impl.NumbersOf(impl.MeetRanges(impl.LineOf(a), impl.LineOf(b)))
		if got := impl.OverlapOf(a, b); !slices.Equal(got, numbers) || !slices.Equal(got, plainOverlap(a, b)) {
			t.Fatalf("OverlapOf(%v, %v) = %v, but their ranges meet in %v", a, b, got, numbers)
		}
		if len(numbers) > 1 {
			meet++
		}
	}
	if meet == 0 {
		t.Fatal("no two lines meet in two cells")
	}
	for _, v := range manyViews() {
		if got := impl.LineOf(v); len(v.Shape) != 1 && got != (impl.Range{}) {
			t.Fatalf("LineOf(%v) = %v", v, got)
		}
	}
}

// checkTiles fails if TilesOf does not tell what walks through the views tell, or if what it tells does not hold.
func checkTiles(t *testing.T, list []impl.View, size int) bool {
	t.Helper()
	want := len(list) <= 8 && size >= 0 && size <= 60 && plainTiles(list, size)
	if got := impl.TilesOf(list, size); got != want {
		t.Fatalf("TilesOf(%v, %d) = %v", list, size, got)
	}
	if !want {
		return false
	}
	for x := range impl.MaxCells {
		if holders := impl.HoldersOf(list, x); len(holders) != 1 && x < size || len(holders) != 0 && x >= size {
			t.Fatalf("%v tile %d cells, and HoldersOf %d are %v", list, size, x, holders)
		}
	}
	for i, v := range list {
		if !impl.IsOneToOne(v) {
			t.Fatalf("%v tile %d cells, but %v is not one to one", list, size, v)
		}
		for _, other := range list[i+1:] {
			if impl.DoOverlap(v, other) {
				t.Fatalf("%v tile %d cells, but %v and %v overlap", list, size, v, other)
			}
		}
	}
	return true
}

func TestP58TilesDoNotOverlap(t *testing.T) {
	for _, size := range []int{0, 1, 2, 3, 4, 6, 7, 8, 12, 24, 29, 30, 36, 48, 59, 60} {
		for _, list := range manyTilings(size) {
			if !checkTiles(t, list, size) {
				t.Fatalf("%v do not tile %d cells", list, size)
			}
			for _, other := range []int{-1, 0, size - 1, size + 1, impl.MaxCells, impl.MaxCells + 1} {
				checkTiles(t, list, other)
			}
			for _, near := range nearTilings(list) {
				checkTiles(t, near, size)
				checkTiles(t, near, size-1)
			}
		}
	}
	tiled := 0
	for a, b := range pairsOf(someOf(smallViews(), 2)) {
		for size := range 6 {
			if checkTiles(t, []impl.View{a, b}, size) && len(plainCells(a)) > 1 && len(plainCells(b)) > 1 {
				tiled++
			}
		}
	}
	if tiled == 0 {
		t.Fatal("no two small views tile some cells")
	}
}

func TestP59HoldersHaveTheCell(t *testing.T) {
	all := slices.Concat(lacedViews(), edgeViews(), someOf(someViews(), 31))
	for count := 0; count <= impl.MaxViews; count++ {
		for first := 0; first+count <= len(all); first += 3 {
			list := all[first : first+count]
			for _, x := range slices.Concat(firstNumbers(63), ints(-1, -60, math.MaxInt, math.MinInt)) {
				var want []int
				for i, v := range list {
					if slices.Contains(plainCells(v), x) {
						want = append(want, i)
					}
				}
				got := impl.HoldersOf(list, x)
				if !slices.Equal(got, want) {
					t.Fatalf("HoldersOf(%v, %d) = %v, not %v", list, x, got, want)
				}
				for i, v := range list {
					if slices.Contains(got, i) != slices.Contains(impl.CellsOf(v), x) {
						t.Fatalf("HoldersOf(%v, %d) = %v, but CellsOf view %d are %v", list, x, got, i, impl.CellsOf(v))
					}
				}
			}
		}
	}
}
