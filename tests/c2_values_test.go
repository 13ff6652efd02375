package tests

import (
	"math"
	"slices"
	"testing"

	"loop.example/strideviews/impl"
)

func TestLimitsOfShapes(t *testing.T) {
	if impl.MaxDims != 4 || impl.MaxExtent != 60 || impl.MaxStride != 60 {
		t.Errorf("limits are %d, %d, %d", impl.MaxDims, impl.MaxExtent, impl.MaxStride)
	}
}

func TestValidShapeValues(t *testing.T) {
	for _, shape := range [][]int{
		nil, {}, {0}, {1}, {60}, {0, 60}, {60, 0, 60}, {60, 60, 0}, {0, 60, 60, 60}, {60, 60, 60, 0}, {0, 0, 0, 0},
		{1, 1, 1, 1}, {60, 1, 1, 1}, {2, 30}, {5, 12}, {3, 4, 5}, {2, 2, 3, 5}, {1, 59}, {1, 1, 1, 60}, {7, 8},
	} {
		if !impl.ValidShape(shape) {
			t.Errorf("ValidShape(%v) = false", shape)
		}
	}
	// A walk over all shapes of two extents, and one beyond the limits.
	for a := -2; a <= 62; a++ {
		for b := -2; b <= 62; b++ {
			if want := a >= 0 && b >= 0 && a <= 60 && b <= 60 && a*b <= 60; impl.ValidShape(ints(a, b)) != want {
				t.Errorf("ValidShape(%d, %d) = %v", a, b, !want)
			}
		}
	}
}

// TestBadShapes checks the fixed results for shapes that are not valid.
func TestBadShapes(t *testing.T) {
	for _, shape := range badShapes() {
		if impl.ValidShape(shape) || impl.CountOf(shape) != -1 {
			t.Errorf("ValidShape(%v) = %v, CountOf = %d", shape, impl.ValidShape(shape), impl.CountOf(shape))
		}
		for _, k := range []int{0, 1, -1, math.MaxInt, math.MinInt} {
			if index := impl.IndexAt(shape, k); len(index) != 0 {
				t.Errorf("IndexAt(%v, %d) = %v", shape, k, index)
			}
		}
		if a, b := impl.RankOf(shape, make([]int, len(shape))), impl.RankOf(shape, nil); a != -1 || b != -1 {
			t.Errorf("RankOf(%v) = %d and %d", shape, a, b)
		}
		if rows, cols := impl.RowStrides(shape), impl.ColStrides(shape); len(rows) != 0 || len(cols) != 0 {
			t.Errorf("RowStrides(%v) = %v, ColStrides = %v", shape, rows, cols)
		}
		if v := impl.NewView(shape); !isZero(v) {
			t.Errorf("NewView(%v) = %v", shape, v)
		}
	}
}

func TestStridesOfShapesValues(t *testing.T) {
	for _, c := range []struct {
		shape, row, col []int
		count           int
	}{
		{nil, nil, nil, 1},
		{ints(7), ints(1), ints(1), 7},
		{ints(0), ints(1), ints(1), 0},
		{ints(2, 3), ints(3, 1), ints(1, 2), 6},
		{ints(3, 4, 5), ints(20, 5, 1), ints(1, 3, 12), 60},
		{ints(1, 1, 1, 1), ints(1, 1, 1, 1), ints(1, 1, 1, 1), 1},
		{ints(2, 1, 3, 5), ints(15, 15, 5, 1), ints(1, 2, 2, 6), 30},
		{ints(60, 0, 60), ints(0, 60, 1), ints(1, 60, 0), 0},
		{ints(0, 60, 60), ints(3600, 60, 1), ints(1, 0, 0), 0},
		{ints(60, 60, 0), ints(0, 0, 1), ints(1, 60, 3600), 0},
		{ints(0, 60, 60, 60), ints(216000, 3600, 60, 1), ints(1, 0, 0, 0), 0},
		{ints(60, 60, 60, 0), ints(0, 0, 0, 1), ints(1, 60, 3600, 216000), 0},
	} {
		if got := impl.CountOf(c.shape); got != c.count {
			t.Errorf("CountOf(%v) = %d, not %d", c.shape, got, c.count)
		}
		if got := impl.RowStrides(c.shape); !slices.Equal(got, c.row) {
			t.Errorf("RowStrides(%v) = %v, not %v", c.shape, got, c.row)
		}
		if got := impl.ColStrides(c.shape); !slices.Equal(got, c.col) {
			t.Errorf("ColStrides(%v) = %v, not %v", c.shape, got, c.col)
		}
	}
}

func TestIndexAtAndRankOfValues(t *testing.T) {
	for _, c := range []struct {
		shape []int
		k     int
		index []int
	}{
		{ints(2, 3), 0, ints(0, 0)}, {ints(2, 3), 2, ints(0, 2)}, {ints(2, 3), 3, ints(1, 0)}, {ints(2, 3), 4, ints(1, 1)}, {ints(2, 3), 5, ints(1, 2)},
		{ints(60), 59, ints(59)}, {ints(3, 4, 5), 59, ints(2, 3, 4)}, {ints(3, 4, 5), 27, ints(1, 1, 2)},
		{ints(1, 1, 1, 1), 0, ints(0, 0, 0, 0)}, {ints(2, 1, 3, 5), 29, ints(1, 0, 2, 4)}, {ints(2, 1, 3, 5), 16, ints(1, 0, 0, 1)},
		{nil, 0, nil},
	} {
		if got := impl.IndexAt(c.shape, c.k); !slices.Equal(got, c.index) {
			t.Errorf("IndexAt(%v, %d) = %v, not %v", c.shape, c.k, got, c.index)
		}
		if got := impl.RankOf(c.shape, c.index); got != c.k {
			t.Errorf("RankOf(%v, %v) = %d, not %d", c.shape, c.index, got, c.k)
		}
	}
	for _, c := range []struct {
		shape []int
		k     int
	}{
		{ints(2, 3), 6}, {ints(2, 3), -1}, {ints(2, 3), math.MaxInt}, {ints(2, 3), math.MinInt},
		{nil, 1}, {nil, -1}, {ints(0), 0}, {ints(0), -1}, {ints(60, 0, 60), 0}, {ints(0, 60, 60), 1}, {ints(3, 0), 0},
	} {
		if got := impl.IndexAt(c.shape, c.k); len(got) != 0 {
			t.Errorf("IndexAt(%v, %d) = %v", c.shape, c.k, got)
		}
	}
	for _, c := range []struct{ shape, index []int }{
		{ints(2, 3), ints(2, 0)}, {ints(2, 3), ints(0, 3)}, {ints(2, 3), ints(-1, 3)}, {ints(2, 3), ints(1, -1)}, {ints(2, 3), ints(0, 4)},
		{ints(2, 3), nil}, {ints(2, 3), ints(1)}, {ints(2, 3), ints(1, 1, 0)}, {ints(2, 3), ints(0, 0, 0, 0, 0)}, {nil, ints(0)},
		{ints(0), ints(0)}, {ints(3, 0), ints(1, 0)}, {ints(0, 3), ints(0, 0)}, {ints(60, 0, 60), ints(0, 0, 0)},
		{ints(2, 3), ints(math.MaxInt, 0)}, {ints(2, 3), ints(0, math.MinInt)}, {ints(2, 3), ints(1<<62, 1<<62)},
	} {
		if got := impl.RankOf(c.shape, c.index); got != -1 {
			t.Errorf("RankOf(%v, %v) = %d", c.shape, c.index, got)
		}
	}
}

func TestValidViewValues(t *testing.T) {
	for _, v := range []impl.View{
		{}, vw(0, nil), vw(59, nil), vw(0, ints(60), 1), vw(59, ints(60), -1), vw(59, ints(60), 0), vw(0, ints(60), 0),
		vw(60, ints(0), 1), vw(60, ints(0), 60), vw(0, ints(0), -60), vw(60, ints(60, 0, 60), 60, -60, 60), vw(0, ints(0, 60), 0, -60),
		vw(59, ints(1), 60), vw(0, ints(1), -60), vw(59, ints(1, 1, 1, 1), 60, 60, 60, 60), vw(0, ints(2), 59), vw(59, ints(2), -59),
		vw(12, ints(3, 3), -5, -1), vw(10, ints(3, 3), -5, 6), vw(47, ints(3, 3), 5, 1), vw(30, ints(2, 2), -30, 29), vw(0, ints(3, 4, 5), 20, 5, 1), vw(59, ints(2, 2, 3, 5), -30, -15, -5, -1),
		// Strides that go up and down together stay among the cells.
		vw(20, ints(2, 2), 39, -20), vw(40, ints(3, 3), -20, 9),
	} {
		if !impl.ValidView(v) {
			t.Errorf("ValidView(%v) = false", v)
		}
	}
}

// TestBadViews checks the fixed results for views that are not valid.
func TestBadViews(t *testing.T) {
	for _, v := range badViews() {
		if impl.ValidView(v) {
			t.Errorf("ValidView(%v) = true", v)
		}
		for _, index := range [][]int{nil, make([]int, len(v.Shape)), make([]int, len(v.Strides)), {0}} {
			if cell, ok := impl.OffsetAt(v, index); cell != 0 || ok {
				t.Errorf("OffsetAt(%v, %v) = %d, %v", v, index, cell, ok)
			}
		}
		if cells := impl.OffsetsOf(v); len(cells) != 0 {
			t.Errorf("OffsetsOf(%v) = %v", v, cells)
		}
		if impl.IsRow(v) || impl.IsCol(v) || impl.IsOneToOne(v) {
			t.Errorf("%v: IsRow = %v, IsCol = %v, IsOneToOne = %v", v, impl.IsRow(v), impl.IsCol(v), impl.IsOneToOne(v))
		}
		if low, high := impl.BoundsOf(v); low != -1 || high != -1 {
			t.Errorf("BoundsOf(%v) = %d, %d", v, low, high)
		}
		for _, size := range []int{-1, 0, 1, 60, 61, math.MaxInt} {
			if impl.FitsIn(v, size) {
				t.Errorf("FitsIn(%v, %d) = true", v, size)
			}
		}
	}
}

func TestOffsetsOfValues(t *testing.T) {
	for _, c := range []struct {
		v         impl.View
		cells     []int
		low, high int
		oneToOne  bool
	}{
		{vw(7, nil), ints(7), 7, 7, true},
		{vw(1, ints(2, 3), 3, 1), ints(1, 2, 3, 4, 5, 6), 1, 6, true},
		{vw(0, ints(2, 3), 1, 2), ints(0, 2, 4, 1, 3, 5), 0, 5, true},
		{vw(5, ints(3), -2), ints(5, 3, 1), 1, 5, true},
		{vw(9, ints(3), 0), ints(9, 9, 9), 9, 9, false},
		{vw(9, ints(1), 0), ints(9), 9, 9, true},
		{vw(9, ints(1, 2), -60, 4), ints(9, 13), 9, 13, true},
		{vw(0, ints(2, 3), 1, 1), ints(0, 1, 2, 1, 2, 3), 0, 3, false},
		{vw(0, ints(2, 3), 0, 1), ints(0, 1, 2, 0, 1, 2), 0, 2, false},
		{vw(10, ints(2, 2), -3, 5), ints(10, 15, 7, 12), 7, 15, true},
		{vw(10, ints(2, 2), 4, -4), ints(10, 6, 14, 10), 6, 14, false},
		{vw(59, ints(2, 2), -1, -2), ints(59, 57, 58, 56), 56, 59, true},
		{vw(0, ints(2, 2, 2), 4, 2, 1), ints(0, 1, 2, 3, 4, 5, 6, 7), 0, 7, true},
		{vw(3, ints(2, 1, 2, 2), 8, 60, -3, 1), ints(3, 4, 0, 1, 11, 12, 8, 9), 0, 12, true},
		{vw(0, ints(0), 1), nil, -1, -1, true},
		{vw(60, ints(0), 60), nil, -1, -1, true},
		{vw(5, ints(3, 0), 0, 0), nil, -1, -1, true},
		{vw(5, ints(0, 3), 60, -60), nil, -1, -1, true},
	} {
		if got := impl.OffsetsOf(c.v); !slices.Equal(got, c.cells) {
			t.Errorf("OffsetsOf(%v) = %v, not %v", c.v, got, c.cells)
		}
		if low, high := impl.BoundsOf(c.v); low != c.low || high != c.high {
			t.Errorf("BoundsOf(%v) = %d, %d", c.v, low, high)
		}
		if got := impl.IsOneToOne(c.v); got != c.oneToOne {
			t.Errorf("IsOneToOne(%v) = %v", c.v, got)
		}
	}
}

func TestOffsetAtValues(t *testing.T) {
	v, w := vw(1, ints(2, 3), 3, 1), vw(10, ints(2, 2), -3, 5)
	for _, c := range []struct {
		v     impl.View
		index []int
		want  int
		ok    bool
	}{
		{v, ints(0, 0), 1, true}, {v, ints(1, 1), 5, true}, {v, ints(1, 2), 6, true}, {w, ints(1, 0), 7, true}, {w, ints(1, 1), 12, true},
		{vw(7, nil), nil, 7, true}, {vw(0, nil), nil, 0, true}, {vw(9, ints(3), 0), ints(2), 9, true},
		{v, ints(2, 0), 0, false}, {v, ints(0, 3), 0, false}, {v, ints(-1, 0), 0, false}, {v, ints(0, -1), 0, false}, {v, ints(-1, 5), 0, false},
		{v, nil, 0, false}, {v, ints(1), 0, false}, {v, ints(1, 1, 0), 0, false}, {vw(7, nil), ints(0), 0, false},
		{vw(5, ints(0), 1), ints(0), 0, false}, {vw(5, ints(0), 1), nil, 0, false}, {vw(5, ints(3, 0), 0, 0), ints(0, 0), 0, false},
		{v, ints(math.MaxInt, 0), 0, false}, {v, ints(0, math.MinInt), 0, false},
	} {
		if x, ok := impl.OffsetAt(c.v, c.index); x != c.want || ok != c.ok {
			t.Errorf("OffsetAt(%v, %v) = %d, %v", c.v, c.index, x, ok)
		}
	}
}

func TestNewViewValues(t *testing.T) {
	for _, c := range []struct {
		shape []int
		want  impl.View
	}{
		{nil, impl.View{}},
		{ints(60), vw(0, ints(60), 1)},
		{ints(2, 3), vw(0, ints(2, 3), 3, 1)},
		{ints(3, 4, 5), vw(0, ints(3, 4, 5), 20, 5, 1)},
		{ints(1, 60), vw(0, ints(1, 60), 60, 1)},
		{ints(1, 1, 1, 60), vw(0, ints(1, 1, 1, 60), 60, 60, 60, 1)},
		{ints(0), vw(0, ints(0), 0)},
		{ints(3, 0), vw(0, ints(3, 0), 0, 0)},
		{ints(0, 3), vw(0, ints(0, 3), 0, 0)},
		{ints(60, 0, 60), vw(0, ints(60, 0, 60), 0, 0, 0)},
		{ints(0, 60, 60, 60), vw(0, ints(0, 60, 60, 60), 0, 0, 0, 0)},
	} {
		if got := impl.NewView(c.shape); !sameViews(got, c.want) {
			t.Errorf("NewView(%v) = %v, not %v", c.shape, got, c.want)
		}
	}
}

func TestIsRowAndIsColValues(t *testing.T) {
	for _, c := range []struct {
		v        impl.View
		row, col bool
	}{
		{vw(7, nil), true, true}, {vw(0, ints(60), 1), true, true}, {vw(3, ints(5), 1), true, true},
		{vw(3, ints(5), 2), false, false}, {vw(9, ints(5), -1), false, false}, {vw(3, ints(5), 0), false, false},
		{vw(1, ints(2, 3), 3, 1), true, false}, {vw(1, ints(2, 3), 1, 2), false, true}, {vw(1, ints(2, 3), 4, 1), false, false}, {vw(1, ints(2, 3), 1, 3), false, false},
		{vw(0, ints(3, 4, 5), 20, 5, 1), true, false}, {vw(0, ints(3, 4, 5), 1, 3, 12), false, true}, {vw(0, ints(3, 4, 5), 5, 15, 1), false, false},
		// Strides of extents of 1 tell nothing.
		{vw(5, ints(1), 0), true, true}, {vw(5, ints(1), -60), true, true}, {vw(5, ints(1, 1, 1, 1), 60, -60, 0, 7), true, true},
		{vw(5, ints(1, 4), -9, 1), true, true}, {vw(5, ints(4, 1), 1, 33), true, true}, {vw(5, ints(2, 1, 3), 3, 50, 1), true, false}, {vw(5, ints(2, 1, 3), 1, 50, 2), false, true},
		// Without indices there are no cells that could differ.
		{vw(5, ints(0), 7), true, true}, {vw(60, ints(0), -60), true, true}, {vw(5, ints(0, 60, 60), 0, 0, 0), true, true}, {vw(5, ints(60, 60, 0), 1, 1, 1), true, true},
		// Row and column strides would go beyond all cells.
		{vw(59, ints(2, 2), -1, 0), false, false}, {vw(50, ints(60), 0), false, false}, {vw(59, ints(2, 30), -1, -1), false, false},
	} {
		if got := impl.IsRow(c.v); got != c.row {
			t.Errorf("IsRow(%v) = %v", c.v, got)
		}
		if got := impl.IsCol(c.v); got != c.col {
			t.Errorf("IsCol(%v) = %v", c.v, got)
		}
	}
}

func TestFitsInValues(t *testing.T) {
	for _, c := range []struct {
		v    impl.View
		size int
		want bool
	}{
		{vw(5, ints(3), -2), 6, true}, {vw(5, ints(3), -2), 5, false}, {vw(5, ints(3), -2), 60, true}, {vw(5, ints(3), -2), 0, false},
		{vw(1, ints(2, 3), 3, 1), 7, true}, {vw(1, ints(2, 3), 3, 1), 6, false}, {vw(0, nil), 1, true}, {vw(0, nil), 0, false},
		{vw(0, ints(60), 1), 60, true}, {vw(0, ints(60), 1), 59, false}, {vw(9, ints(4), 0), 10, true}, {vw(9, ints(4), 0), 9, false},
		{vw(0, ints(0), 1), 0, true}, {vw(60, ints(0), 60), 0, true}, {vw(60, ints(3, 0), 1, 1), 60, true},
		{vw(0, ints(0), 1), -1, false}, {vw(0, ints(0), 1), 61, false}, {vw(0, nil), 61, false}, {vw(0, nil), -1, false},
		{vw(0, nil), math.MaxInt, false}, {vw(0, ints(0), 1), math.MinInt, false},
	} {
		if got := impl.FitsIn(c.v, c.size); got != c.want {
			t.Errorf("FitsIn(%v, %d) = %v", c.v, c.size, got)
		}
	}
}

// TestNewViewIsFresh checks that a new view shares no memory with the shape, nor its shape with its strides.
func TestNewViewIsFresh(t *testing.T) {
	for _, whole := range [][]int{{2, 3, 77, 77}, {2, 0, 77, 77}} {
		given := slices.Clone(whole)
		v := impl.NewView(given[:2])
		shape, strides := slices.Clone(v.Shape), slices.Clone(v.Strides)
		given[0] = 5
		if v.Shape[0] != 2 {
			t.Errorf("a new view sees what is written into the shape")
		}
		given[0] = 2
		_, _ = append(v.Shape, 88), append(v.Strides, 99)
		if !slices.Equal(given, whole) || !slices.Equal(v.Shape, shape) || !slices.Equal(v.Strides, strides) {
			t.Errorf("what is behind a shape was changed: %v, %v", given, v)
		}
		v.Shape[0], v.Strides[1] = 44, 55
		if !slices.Equal(given, whole) || v.Shape[1] != shape[1] || v.Strides[0] != strides[0] {
			t.Errorf("a new view shares memory: %v, %v", given, v)
		}
		if w := impl.NewView(given[:2]); !slices.Equal(w.Shape, shape) || !slices.Equal(w.Strides, strides) {
			t.Errorf("a later call sees what was written into a result: %v", w)
		}
	}
}

// TestShapesAreFreshAndKept checks that no two results share memory, and that no argument is changed.
func TestShapesAreFreshAndKept(t *testing.T) {
	shape, index, strides := ints(2, 3), ints(1, 2), ints(-3, -1)
	v := impl.View{Base: 9, Shape: shape, Strides: strides}
	for range 2 {
		at, row, col, cells := impl.IndexAt(shape, 5), impl.RowStrides(shape), impl.ColStrides(shape), impl.OffsetsOf(v)
		if !slices.Equal(at, ints(1, 2)) || !slices.Equal(row, ints(3, 1)) || !slices.Equal(col, ints(1, 2)) || !slices.Equal(cells, ints(9, 8, 7, 6, 5, 4)) {
			t.Errorf("a later call sees what was written into a result: %v, %v, %v, %v", at, row, col, cells)
		}
		at[0], row[0], col[0], cells[0] = 77, 77, 77, 77
	}
	impl.RankOf(shape, index)
	impl.OffsetAt(v, index)
	impl.BoundsOf(v)
	if !impl.ValidView(v) || impl.IsRow(v) || impl.IsCol(v) || !impl.FitsIn(v, 10) || !impl.IsOneToOne(v) {
		t.Errorf("%v is not what it was", v)
	}
	if !slices.Equal(shape, ints(2, 3)) || !slices.Equal(index, ints(1, 2)) || !slices.Equal(strides, ints(-3, -1)) {
		t.Errorf("an argument was changed: %v, %v, %v", shape, index, strides)
	}
}
