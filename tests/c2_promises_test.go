package tests

import (
	"slices"
	"testing"

	"loop.example/strideviews/impl"
)

func TestP18DimensionsCanBeLeftOut(t *testing.T) {
	for _, shape := range manyShapes() {
		if !impl.ValidShape(shape) {
			t.Fatalf("ValidShape(%v) = false", shape)
		}
		for d := range shape {
			if without := slices.Delete(slices.Clone(shape), d, d+1); impl.CountOf(shape) > 0 && !impl.ValidShape(without) {
				t.Fatalf("%v is valid, but %v is not", shape, without)
			}
		}
	}
}

func TestP19CountsMultiply(t *testing.T) {
	for _, shape := range manyShapes() {
		got := impl.CountOf(shape)
		if got != plainProduct(shape) || got != len(plainWalk(shape)) || slices.Contains(shape, 0) != (got == 0) {
			t.Fatalf("CountOf(%v) = %d", shape, got)
		}
	}
}

func TestP20RanksAndIndicesAreOneToOne(t *testing.T) {
	for _, shape := range manyShapes() {
		walk := plainWalk(shape)
		for k, want := range walk {
			index := impl.IndexAt(shape, k)
			if !slices.Equal(index, want) || impl.RankOf(shape, index) != k {
				t.Fatalf("IndexAt(%v, %d) = %v with the rank %d", shape, k, index, impl.RankOf(shape, index))
			}
		}
		for _, k := range []int{-1, len(walk), len(walk) + 1} {
			if index := impl.IndexAt(shape, k); len(index) != 0 {
				t.Fatalf("IndexAt(%v, %d) = %v", shape, k, index)
			}
		}
	}
}

func TestP21IndicesHaveRanks(t *testing.T) {
	for _, shape := range manyShapes() {
		strides := impl.RowStrides(shape)
		for k, index := range plainWalk(shape) {
			rank, sum := impl.RankOf(shape, index), 0
			for d, i := range index {
				sum += i * strides[d]
			}
			if rank != k || rank != sum || !slices.Equal(impl.IndexAt(shape, rank), index) {
				t.Fatalf("RankOf(%v, %v) = %d, not %d, and by RowStrides %d", shape, index, rank, k, sum)
			}
		}
		for _, index := range badIndices(shape) {
			if rank := impl.RankOf(shape, index); rank != -1 {
				t.Fatalf("RankOf(%v, %v) = %d", shape, index, rank)
			}
		}
	}
}

func TestP22RowStridesAreThoseOfRanks(t *testing.T) {
	for _, shape := range manyShapes() {
		strides := impl.RowStrides(shape)
		if len(strides) != len(shape) || len(shape) > 0 && strides[len(shape)-1] != 1 {
			t.Fatalf("RowStrides(%v) = %v", shape, strides)
		}
		for d := 0; d+1 < len(shape); d++ {
			if strides[d] != strides[d+1]*shape[d+1] {
				t.Fatalf("RowStrides(%v) = %v", shape, strides)
			}
		}
		for k, index := range plainWalk(shape) {
			if plainCell(vw(0, shape, strides...), index) != k {
				t.Fatalf("RowStrides(%v) = %v do not rank %v", shape, strides, index)
			}
		}
	}
}

func TestP23ColumnStridesAreRowStridesInReverse(t *testing.T) {
	for _, shape := range manyShapes() {
		strides := impl.ColStrides(shape)
		if !slices.Equal(strides, backward(impl.RowStrides(backward(shape)))) {
			t.Fatalf("ColStrides(%v) = %v", shape, strides)
		}
		for d := range shape {
			if strides[d] != plainProduct(shape[:d]) {
				t.Fatalf("ColStrides(%v) = %v", shape, strides)
			}
		}
	}
}

// TestP24ValidViewsHaveCells finds with a walk through the cells of many views which of them are valid.
func TestP24ValidViewsHaveCells(t *testing.T) {
	valid := 0
	for _, v := range sizedViews() {
		want := plainValid(v)
		if got := impl.ValidView(v); got != want {
			t.Fatalf("ValidView(%v) = %v", v, got)
		}
		if want {
			valid++
		}
	}
	if valid == 0 {
		t.Fatal("no view is valid")
	}
	for _, v := range manyViews() {
		cells := impl.OffsetsOf(v)
		if !impl.ValidView(v) || len(cells) != impl.CountOf(v.Shape) || slices.ContainsFunc(cells, func(x int) bool { return x < 0 || x >= impl.MaxCells }) {
			t.Fatalf("%v is valid: %v, and OffsetsOf = %v", v, impl.ValidView(v), cells)
		}
	}
}

func TestP25CellsAreAtRanks(t *testing.T) {
	for _, v := range manyViews() {
		cells := impl.OffsetsOf(v)
		if !slices.Equal(cells, plainCells(v)) {
			t.Fatalf("OffsetsOf(%v) = %v, not %v", v, cells, plainCells(v))
		}
		for _, index := range plainWalk(v.Shape) {
			cell, ok := impl.OffsetAt(v, index)
			if !ok || cell != cells[impl.RankOf(v.Shape, index)] {
				t.Fatalf("OffsetAt(%v, %v) = %d, %v", v, index, cell, ok)
			}
		}
		for _, index := range badIndices(v.Shape) {
			if cell, ok := impl.OffsetAt(v, index); cell != 0 || ok {
				t.Fatalf("OffsetAt(%v, %v) = %d, %v", v, index, cell, ok)
			}
		}
	}
}

func TestP26StridesGoByDimensions(t *testing.T) {
	for _, v := range manyViews() {
		for _, index := range plainWalk(v.Shape) {
			cell, _ := impl.OffsetAt(v, index)
			for d := range index {
				next := slices.Clone(index)
				next[d]++
				other, ok := impl.OffsetAt(v, next)
				if ok != (next[d] < v.Shape[d]) || ok && other-cell != v.Strides[d] {
					t.Fatalf("%v: OffsetAt(%v) = %d, and OffsetAt(%v) = %d, %v", v, index, cell, next, other, ok)
				}
			}
		}
	}
}

func TestP27NewViewsAreDense(t *testing.T) {
	for _, shape := range manyShapes() {
		v := impl.NewView(shape)
		n := plainProduct(shape)
		if v.Base != 0 || !slices.Equal(v.Shape, shape) || !impl.ValidView(v) || !slices.Equal(impl.OffsetsOf(v), firstNumbers(n)) {
			t.Fatalf("NewView(%v) = %v with the cells %v", shape, v, impl.OffsetsOf(v))
		}
		want := impl.RowStrides(shape)
		if n == 0 {
			want = make([]int, len(shape))
		}
		if !slices.Equal(v.Strides, want) || !impl.IsRow(v) || !impl.IsOneToOne(v) {
			t.Fatalf("NewView(%v) = %v", shape, v)
		}
	}
}

func TestP28RowsAreLines(t *testing.T) {
	rows := 0
	for _, v := range manyViews() {
		line := true
		for k, cell := range plainCells(v) {
			line = line && cell == v.Base+k
		}
		if impl.IsRow(v) != line {
			t.Fatalf("IsRow(%v) = %v", v, impl.IsRow(v))
		}
		if line && len(plainCells(v)) > 1 {
			rows++
		}
	}
	if rows == 0 || rows == len(manyViews()) {
		t.Fatalf("%d of %d views are rows", rows, len(manyViews()))
	}
}

// TestP29ColumnsAreRowsTurnedRound holds IsCol against a walk in which the first number goes on first, and against IsRow of the view with its dimensions in reverse order.
func TestP29ColumnsAreRowsTurnedRound(t *testing.T) {
	cols := 0
	for _, v := range manyViews() {
		line := true
		for _, index := range plainWalk(v.Shape) {
			line = line && plainCell(v, index) == v.Base+plainColumn(v.Shape, index)
		}
		rows, ok := impl.PermuteDims(v, backward(firstNumbers(len(v.Shape))))
		if !ok || !sameViews(rows, turned(v)) {
			t.Fatalf("PermuteDims of %v in reverse order = %v, %v", v, rows, ok)
		}
		if impl.IsCol(v) != line || impl.IsCol(v) != impl.IsRow(rows) {
			t.Fatalf("IsCol(%v) = %v", v, impl.IsCol(v))
		}
		if line && len(plainWalk(v.Shape)) > 1 {
			cols++
		}
	}
	if cols == 0 || cols == len(manyViews()) {
		t.Fatalf("%d of %d views are columns", cols, len(manyViews()))
	}
}

func TestP30BoundsAreCells(t *testing.T) {
	for _, v := range manyViews() {
		low, high := impl.BoundsOf(v)
		cells := plainCells(v)
		if len(cells) == 0 {
			if low != -1 || high != -1 {
				t.Fatalf("BoundsOf(%v) = %d, %d without cells", v, low, high)
			}
			continue
		}
		if low != slices.Min(cells) || high != slices.Max(cells) {
			t.Fatalf("BoundsOf(%v) = %d, %d", v, low, high)
		}
		// Strides tell them, too: the least cell has the greatest number in just the dimensions that go down.
		least, greatest := v.Base, v.Base
		for d, stride := range v.Strides {
			if stride < 0 {
				least += stride * (v.Shape[d] - 1)
			} else {
				greatest += stride * (v.Shape[d] - 1)
			}
		}
		if low != least || high != greatest {
			t.Fatalf("BoundsOf(%v) = %d, %d, by strides %d, %d", v, low, high, least, greatest)
		}
	}
}

func TestP31ViewsFitUpToTheirGreatestCell(t *testing.T) {
	for _, v := range manyViews() {
		cells := plainCells(v)
		_, high := impl.BoundsOf(v)
		for size := -2; size <= impl.MaxCells+2; size++ {
			want := size >= 0 && size <= impl.MaxCells && (len(cells) == 0 || slices.Max(cells) < size)
			if got := impl.FitsIn(v, size); got != want || len(cells) > 0 && got != (high < size && size <= impl.MaxCells) {
				t.Fatalf("FitsIn(%v, %d) = %v", v, size, got)
			}
		}
	}
}

// TestP32OneToOneViewsHaveNoRepeats counts how often a walk through the cells of a view comes to each of them.
func TestP32OneToOneViewsHaveNoRepeats(t *testing.T) {
	views := map[bool]int{}
	for _, v := range manyViews() {
		want := true
		var times [impl.MaxCells]int
		for _, cell := range plainCells(v) {
			times[cell]++
			want = want && times[cell] == 1
		}
		if got := impl.IsOneToOne(v); got != want || got != (len(impl.RepeatsOf(v)) == 0) {
			t.Fatalf("IsOneToOne(%v) = %v, and RepeatsOf = %v", v, got, impl.RepeatsOf(v))
		}
		views[want]++
	}
	if views[true] == 0 || views[false] == 0 {
		t.Fatalf("views are one to one or not: %v", views)
	}
}
