package tests

import (
	"math"
	"slices"
	"testing"

	"loop.example/strideviews/impl"
)

// checkValue fails if a result is not the view want and true, or, without want, the zero value and false.
func checkValue(t *testing.T, what string, v impl.View, got impl.View, ok bool, want *impl.View) {
	t.Helper()
	if want == nil {
		if ok || !isZero(got) {
			t.Errorf("%s of %v = %v, %v", what, v, got, ok)
		}
		return
	}
	if !ok || !sameViews(got, *want) {
		t.Errorf("%s of %v = %v, %v, not %v", what, v, got, ok, *want)
	}
}

// is returns the result that a call has to return.
func is(base int, shape []int, strides ...int) *impl.View {
	v := vw(base, shape, strides...)
	return &v
}

func TestSliceDimValues(t *testing.T) {
	m, line := vw(0, ints(3, 4), 4, 1), vw(59, ints(60), -1)
	for _, c := range []struct {
		v    impl.View
		d    int
		s    impl.Slice
		want *impl.View
	}{
		{m, 1, open(-2), is(3, ints(3, 2), 4, -2)}, {m, 0, open(1), is(0, ints(3, 4), 4, 1)}, {m, 0, from(1, 1), is(4, ints(2, 4), 4, 1)}, {m, 1, between(1, -1, 1), is(1, ints(3, 2), 4, 1)},
		{m, 0, open(2), is(0, ints(2, 4), 8, 1)}, {m, 1, between(-100, 100, 3), is(0, ints(3, 2), 4, 3)}, {line, 0, open(59), is(59, ints(2), -59)}, {line, 0, open(-59), is(0, ints(2), 59)},
		// One number has the stride 0, also where it was the only one.
		{m, 0, open(200), is(0, ints(1, 4), 0, 1)}, {m, 0, open(-200), is(8, ints(1, 4), 0, 1)}, {m, 1, between(2, 3, 1), is(2, ints(3, 1), 4, 0)}, {vw(5, ints(1), 60), 0, open(1), is(5, ints(1), 0)}, {line, 0, open(60), is(59, ints(1), 0)},
		// Other dimensions keep their strides.
		{vw(5, ints(1, 4), 60, 1), 1, open(2), is(5, ints(1, 2), 60, 2)},
		// Without indices all is 0.
		{m, 0, between(2, 1, 1), is(0, ints(0, 4), 0, 0)}, {m, 1, from(100, 1), is(0, ints(3, 0), 0, 0)}, {m, 1, from(-100, -1), is(0, ints(3, 0), 0, 0)}, {vw(60, ints(0), 7), 0, open(-1), is(0, ints(0), 0)}, {vw(60, ints(3, 0), 7, 8), 0, open(2), is(0, ints(2, 0), 0, 0)},
		// No such dimension, and slices that are not valid.
		{m, 2, open(1), nil}, {m, -1, open(1), nil}, {vw(7, nil), 0, open(1), nil}, {m, 0, open(0), nil}, {m, 0, open(201), nil}, {m, 0, from(101, 1), nil}, {m, 0, impl.Slice{From: 1, By: 1}, nil}, {m, 0, impl.Slice{}, nil},
	} {
		got, ok := impl.SliceDim(c.v, c.d, c.s)
		checkValue(t, "SliceDim", c.v, got, ok, c.want)
	}
}

func TestPickDimValues(t *testing.T) {
	m := vw(0, ints(3, 4), 4, 1)
	for _, c := range []struct {
		v    impl.View
		d, i int
		want *impl.View
	}{
		{m, 0, 0, is(0, ints(4), 1)}, {m, 0, 2, is(8, ints(4), 1)}, {m, 0, -1, is(8, ints(4), 1)}, {m, 0, -3, is(0, ints(4), 1)}, {m, 1, 3, is(3, ints(3), 4)}, {m, 1, -4, is(0, ints(3), 4)},
		{vw(9, ints(4), -3), 0, 3, is(0, nil)}, {vw(9, ints(1), -60), 0, 0, is(9, nil)}, {vw(9, ints(1), 60), 0, -1, is(9, nil)}, {vw(5, ints(1, 4), 60, 1), 1, 2, is(7, ints(1), 60)},
		{vw(60, ints(3, 0), 5, 6), 0, 2, is(0, ints(0), 0)}, {vw(60, ints(0, 2, 3), 5, 6, 7), 1, -1, is(0, ints(0, 3), 0, 0)},
		{m, 0, 3, nil}, {m, 0, -4, nil}, {m, 1, 4, nil}, {m, 1, -5, nil}, {m, 2, 0, nil}, {m, -1, 0, nil}, {vw(60, ints(3, 0), 5, 6), 1, 0, nil}, {vw(60, ints(3, 0), 5, 6), 1, -1, nil}, {vw(60, ints(3, 0), 5, 6), 0, 3, nil}, {vw(9, ints(0), 1), 0, 0, nil}, {vw(9, ints(0), 1), 0, -1, nil}, {vw(7, nil), 0, 0, nil},
		{m, 0, math.MaxInt, nil}, {m, 0, math.MinInt, nil},
	} {
		got, ok := impl.PickDim(c.v, c.d, c.i)
		checkValue(t, "PickDim", c.v, got, ok, c.want)
	}
}

func TestPermuteDimsValues(t *testing.T) {
	m, n := vw(2, ints(3, 4, 2), 8, 2, 1), vw(60, ints(3, 0, 4), 5, 6, -7)
	for _, c := range []struct {
		v     impl.View
		order []int
		want  *impl.View
	}{
		{m, ints(0, 1, 2), is(2, ints(3, 4, 2), 8, 2, 1)}, {m, ints(2, 0, 1), is(2, ints(2, 3, 4), 1, 8, 2)}, {m, ints(1, 2, 0), is(2, ints(4, 2, 3), 2, 1, 8)}, {m, ints(2, 1, 0), is(2, ints(2, 4, 3), 1, 2, 8)},
		// What a view without indices has stays as it is.
		{n, ints(2, 0, 1), is(60, ints(4, 3, 0), -7, 5, 6)}, {vw(7, nil), nil, is(7, nil)}, {vw(7, nil), ints(), is(7, nil)}, {vw(5, ints(1, 1), 60, -60), ints(1, 0), is(5, ints(1, 1), -60, 60)},
		{m, ints(0, 1), nil}, {m, ints(0, 1, 2, 3), nil}, {m, ints(0, 1, 1), nil}, {m, ints(0, 0, 0), nil}, {m, ints(1, 2, 3), nil}, {m, ints(-1, 0, 1), nil}, {m, ints(0, 1, -1), nil}, {m, nil, nil}, {vw(7, nil), ints(0), nil}, {m, ints(0, 1, math.MaxInt), nil}, {m, ints(math.MinInt, 1, 0), nil},
	} {
		got, ok := impl.PermuteDims(c.v, c.order)
		checkValue(t, "PermuteDims", c.v, got, ok, c.want)
	}
}

func TestFlipDimValues(t *testing.T) {
	m := vw(0, ints(3, 4), 4, 1)
	for _, c := range []struct {
		v    impl.View
		d    int
		want *impl.View
	}{
		{m, 0, is(8, ints(3, 4), -4, 1)}, {m, 1, is(3, ints(3, 4), 4, -1)}, {vw(59, ints(60), -1), 0, is(0, ints(60), 1)}, {vw(9, ints(5), 0), 0, is(9, ints(5), 0)},
		{vw(5, ints(1), 60), 0, is(5, ints(1), 0)}, {vw(60, ints(0), 60), 0, is(0, ints(0), 0)}, {vw(60, ints(3, 0), 5, 6), 0, is(0, ints(3, 0), 0, 0)},
		{m, 2, nil}, {m, -1, nil}, {vw(7, nil), 0, nil}, {m, math.MaxInt, nil}, {m, math.MinInt, nil},
	} {
		got, ok := impl.FlipDim(c.v, c.d)
		checkValue(t, "FlipDim", c.v, got, ok, c.want)
	}
}

func TestAddDimAndDropOnesValues(t *testing.T) {
	m := vw(2, ints(3, 4), 4, 1)
	for _, c := range []struct {
		v    impl.View
		at   int
		want *impl.View
	}{
		{m, 0, is(2, ints(1, 3, 4), 0, 4, 1)}, {m, 1, is(2, ints(3, 1, 4), 4, 0, 1)}, {m, 2, is(2, ints(3, 4, 1), 4, 1, 0)}, {vw(7, nil), 0, is(7, ints(1), 0)}, {vw(60, ints(3, 0), 5, 6), 1, is(60, ints(3, 1, 0), 5, 0, 6)}, {vw(0, ints(3, 4, 5), 20, 5, 1), 3, is(0, ints(3, 4, 5, 1), 20, 5, 1, 0)},
		{m, 3, nil}, {m, -1, nil}, {vw(7, nil), 1, nil}, {vw(0, ints(1, 1, 1, 1), 0, 0, 0, 0), 0, nil}, {vw(0, ints(2, 2, 3, 5), 30, 15, 5, 1), 4, nil}, {m, math.MaxInt, nil}, {m, math.MinInt, nil},
	} {
		got, ok := impl.AddDim(c.v, c.at)
		checkValue(t, "AddDim", c.v, got, ok, c.want)
	}
	for _, c := range []struct{ v, want impl.View }{
		{m, m}, {vw(7, nil), vw(7, nil)}, {vw(5, ints(1), 60), vw(5, nil)}, {vw(5, ints(1, 1, 1, 1), 9, -9, 0, 60), vw(5, nil)}, {vw(5, ints(1, 2, 1, 3), 11, 3, 12, 1), vw(5, ints(2, 3), 3, 1)},
		{vw(60, ints(1, 0, 1), 7, 8, 9), vw(60, ints(0), 8)}, {vw(60, ints(0, 3), 7, 8), vw(60, ints(0, 3), 7, 8)},
	} {
		checkValue(t, "DropOnes", c.v, impl.DropOnes(c.v), true, &c.want)
	}
}

func TestSpreadToValues(t *testing.T) {
	m := vw(2, ints(3, 4), 4, 1)
	for _, c := range []struct {
		v     impl.View
		shape []int
		want  *impl.View
	}{
		{vw(0, ints(3), 1), ints(2, 3), is(0, ints(2, 3), 0, 1)}, {vw(0, ints(2, 1), 1, 1), ints(2, 4), is(0, ints(2, 4), 1, 0)}, {m, ints(3, 4), is(2, ints(3, 4), 4, 1)}, {m, ints(1, 5, 3, 4), is(2, ints(1, 5, 3, 4), 0, 0, 4, 1)},
		{vw(7, nil), nil, is(7, nil)}, {vw(7, nil), ints(60), is(7, ints(60), 0)}, {vw(7, nil), ints(1, 1, 1, 1), is(7, ints(1, 1, 1, 1), 0, 0, 0, 0)}, {vw(7, ints(1), 60), ints(60), is(7, ints(60), 0)},
		// Extents of 1 that stay keep their strides, and new ones have 0.
		{vw(7, ints(1), 60), ints(1), is(7, ints(1), 60)}, {vw(7, ints(1), 60), ints(1, 1), is(7, ints(1, 1), 0, 60)}, {vw(7, ints(1, 1), 60, -60), ints(1, 3), is(7, ints(1, 3), 60, 0)},
		// Without indices all is 0.
		{vw(7, nil), ints(0), is(0, ints(0), 0)}, {vw(7, ints(1, 3), 60, 1), ints(0, 3), is(0, ints(0, 3), 0, 0)}, {m, ints(0, 3, 4), is(0, ints(0, 3, 4), 0, 0, 0)}, {vw(60, ints(0), 60), ints(0), is(0, ints(0), 0)}, {vw(60, ints(1, 0), 7, 8), ints(60, 60, 0), is(0, ints(60, 60, 0), 0, 0, 0)},
		{m, ints(4), nil}, {m, nil, nil}, {m, ints(3, 4, 1), nil}, {m, ints(3, 1), nil}, {m, ints(1, 4), nil}, {m, ints(3, 5), nil}, {m, ints(3, 0), nil}, {m, ints(4, 3), nil}, {vw(60, ints(0), 1), ints(1), nil}, {vw(60, ints(0), 1), ints(3), nil}, {vw(60, ints(0), 1), ints(0, 3), nil}, {vw(0, ints(1, 3), 0, 1), ints(3), nil},
		{m, ints(6, 3, 4), nil}, {m, ints(1, 1, 1, 3, 4), nil}, {m, ints(-1, 3, 4), nil}, {m, ints(61, 3, 4), nil}, {vw(7, nil), ints(61), nil}, {vw(7, nil), ints(8, 8), nil}, {vw(7, ints(1), 0), ints(-1), nil}, {vw(7, ints(1), 0), ints(61), nil},
	} {
		got, ok := impl.SpreadTo(c.v, c.shape)
		checkValue(t, "SpreadTo", c.v, got, ok, c.want)
	}
}

func TestCommonShapeValues(t *testing.T) {
	for _, c := range []struct {
		a, b, want []int
		ok         bool
	}{
		{ints(3, 1), ints(4), ints(3, 4), true}, {ints(2, 3), ints(2, 3), ints(2, 3), true}, {ints(3), ints(2, 3), ints(2, 3), true}, {ints(1), ints(7), ints(7), true}, {ints(1, 1, 5), ints(3, 1), ints(1, 3, 5), true}, {ints(2, 1, 2, 1), ints(5, 1, 3), ints(2, 5, 2, 3), true},
		{nil, nil, nil, true}, {nil, ints(60), ints(60), true}, {nil, ints(1, 1), ints(1, 1), true}, {ints(1), ints(1, 1, 1, 1), ints(1, 1, 1, 1), true},
		{ints(0), ints(1), ints(0), true}, {ints(0), nil, ints(0), true}, {ints(0), ints(0), ints(0), true}, {ints(0, 1), ints(60), ints(0, 60), true}, {ints(60, 1), ints(1, 0), ints(60, 0), true}, {ints(60, 0), ints(60, 1, 1), ints(60, 60, 0), true},
		{ints(2), ints(3), nil, false}, {ints(2, 3), ints(2), nil, false}, {ints(0), ints(2), nil, false}, {ints(2, 0), ints(3), nil, false}, {ints(3, 2), ints(2, 2), nil, false},
		// Shapes with too many indices.
		{ints(60, 1), ints(2), nil, false}, {ints(8, 1), ints(8), nil, false}, {ints(1, 31), ints(2, 1), nil, false},
		// Shapes that are not valid, also where what both would have together is.
		{ints(60, 60, 1), ints(0), nil, false}, {ints(60, 60), ints(0, 1, 1), nil, false}, {ints(1, 60, 60), ints(0, 60, 60), nil, false}, {ints(8, 8, 1), ints(8, 8, 0), nil, false},
	} {
		for _, swapped := range []bool{false, true} {
			a, b := c.a, c.b
			if swapped {
				a, b = b, a
			}
			if got, ok := impl.CommonShape(a, b); ok != c.ok || !slices.Equal(got, c.want) {
				t.Errorf("CommonShape(%v, %v) = %v, %v", a, b, got, ok)
			}
		}
	}
	for _, shape := range badShapes() {
		for _, other := range [][]int{nil, {1}, {0}, {2, 3}, shape} {
			if got, ok := impl.CommonShape(shape, other); ok || len(got) != 0 {
				t.Errorf("CommonShape(%v, %v) = %v, %v", shape, other, got, ok)
			}
			if got, ok := impl.CommonShape(other, shape); ok || len(got) != 0 {
				t.Errorf("CommonShape(%v, %v) = %v, %v", other, shape, got, ok)
			}
		}
	}
}

func TestDiagonalOfValues(t *testing.T) {
	m, cube := vw(0, ints(3, 3), 3, 1), vw(0, ints(2, 5, 2), 10, 2, 1)
	for _, c := range []struct {
		v    impl.View
		a, b int
		want *impl.View
	}{
		{m, 0, 1, is(0, ints(3), 4)}, {m, 1, 0, is(0, ints(3), 4)}, {vw(2, ints(3, 3), 3, -1), 0, 1, is(2, ints(3), 2)}, {vw(9, ints(3, 3), 2, -2), 1, 0, is(9, ints(3), 0)}, {cube, 0, 2, is(0, ints(2, 5), 11, 2)}, {cube, 2, 0, is(0, ints(5, 2), 2, 11)},
		{vw(0, ints(2, 3, 3, 2), 18, 6, 2, 1), 2, 1, is(0, ints(2, 3, 2), 18, 8, 1)}, {vw(5, ints(1, 1), 60, 60), 0, 1, is(5, ints(1), 0)}, {vw(5, ints(1, 3, 1), 60, 1, 7), 0, 2, is(5, ints(1, 3), 0, 1)}, {vw(5, ints(1, 3, 3), 60, 1, 7), 1, 2, is(5, ints(1, 3), 60, 8)},
		{vw(60, ints(0, 0), 60, 60), 0, 1, is(0, ints(0), 0)}, {vw(60, ints(3, 0, 3), 5, 6, 7), 0, 2, is(0, ints(3, 0), 0, 0)}, {vw(60, ints(0, 3, 0), 5, 6, 7), 2, 0, is(0, ints(3, 0), 0, 0)},
		{m, 0, 0, nil}, {m, 1, 1, nil}, {m, 0, 2, nil}, {m, 2, 0, nil}, {m, -1, 0, nil}, {m, 0, -1, nil}, {vw(0, ints(3, 4), 4, 1), 0, 1, nil}, {cube, 0, 1, nil}, {vw(7, nil), 0, 0, nil}, {vw(7, nil), 0, 1, nil}, {vw(0, ints(3), 1), 0, 0, nil}, {vw(0, ints(0, 1), 0, 0), 0, 1, nil}, {m, math.MaxInt, 0, nil}, {m, 0, math.MinInt, nil},
	} {
		got, ok := impl.DiagonalOf(c.v, c.a, c.b)
		checkValue(t, "DiagonalOf", c.v, got, ok, c.want)
	}
}

func TestWindowsOfValues(t *testing.T) {
	line, m := vw(0, ints(5), 1), vw(2, ints(3, 4), 4, 1)
	for _, c := range []struct {
		v       impl.View
		d, size int
		want    *impl.View
	}{
		{line, 0, 1, is(0, ints(5, 1), 1, 1)}, {line, 0, 3, is(0, ints(3, 3), 1, 1)}, {m, 0, 2, is(2, ints(2, 4, 2), 4, 1, 4)}, {m, 1, 3, is(2, ints(3, 2, 3), 4, 1, 1)}, {vw(59, ints(4), -3), 0, 2, is(59, ints(3, 2), -3, -3)},
		// A window as great as the dimension is the only one.
		{line, 0, 5, is(0, ints(1, 5), 1, 1)}, {m, 1, 4, is(2, ints(3, 1, 4), 4, 1, 1)}, {m, 0, 3, is(2, ints(1, 4, 3), 4, 1, 4)}, {vw(0, ints(60), 1), 0, 60, is(0, ints(1, 60), 1, 1)}, {vw(5, ints(1), 60), 0, 1, is(5, ints(1, 1), 60, 60)},
		// Views without indices may have many windows, and keep what they have.
		{vw(60, ints(0, 60), 5, 6), 1, 30, is(60, ints(0, 31, 30), 5, 6, 6)}, {vw(60, ints(3, 0), 5, -6), 0, 3, is(60, ints(1, 0, 3), 5, -6, 5)},
		{line, 0, 6, nil}, {line, 0, 0, nil}, {line, 0, -1, nil}, {line, 1, 1, nil}, {line, -1, 1, nil}, {vw(7, nil), 0, 1, nil}, {vw(60, ints(0), 1), 0, 1, nil}, {vw(60, ints(0), 1), 0, 0, nil}, {vw(60, ints(3, 0), 5, 6), 1, 1, nil}, {line, 0, math.MaxInt, nil}, {line, 0, math.MinInt, nil}, {m, math.MaxInt, 1, nil},
		// Too many dimensions or indices.
		{vw(0, ints(2, 2, 3, 5), 30, 15, 5, 1), 0, 1, nil}, {vw(0, ints(1, 1, 1, 1), 0, 0, 0, 0), 3, 1, nil}, {vw(0, ints(60), 1), 0, 2, nil}, {vw(0, ints(60), 1), 0, 59, nil}, {vw(0, ints(4, 15), 15, 1), 1, 2, nil}, {vw(0, ints(15), 1), 0, 8, nil},
		{vw(0, ints(15), 1), 0, 5, is(0, ints(11, 5), 1, 1)}, {vw(0, ints(14), 1), 0, 10, is(0, ints(5, 10), 1, 1)}, {vw(0, ints(16), 1), 0, 12, is(0, ints(5, 12), 1, 1)},
	} {
		got, ok := impl.WindowsOf(c.v, c.d, c.size)
		checkValue(t, "WindowsOf", c.v, got, ok, c.want)
	}
}

func TestReshapeValues(t *testing.T) {
	m, cols := vw(2, ints(3, 4), 4, 1), vw(0, ints(4, 3), 1, 4)
	for _, c := range []struct {
		v     impl.View
		shape []int
		want  *impl.View
	}{
		{m, ints(2, 6), is(2, ints(2, 6), 6, 1)}, {m, ints(12), is(2, ints(12), 1)}, {m, ints(3, 2, 2), is(2, ints(3, 2, 2), 4, 2, 1)}, {m, ints(1, 12, 1), is(2, ints(1, 12, 1), 0, 1, 0)}, {m, ints(3, 4), is(2, ints(3, 4), 4, 1)},
		{vw(9, ints(4), -3), ints(2, 2), is(9, ints(2, 2), -6, -3)}, {vw(9, ints(6), 0), ints(3, 2), is(9, ints(3, 2), 0, 0)}, {vw(0, ints(4, 3), 3, 1), ints(6, 2), is(0, ints(6, 2), 2, 1)},
		// Extents of 1 have the stride 0, also where nothing else changes.
		{vw(7, nil), nil, is(7, nil)}, {vw(7, nil), ints(1, 1, 1, 1), is(7, ints(1, 1, 1, 1), 0, 0, 0, 0)}, {vw(7, ints(1), 60), ints(1), is(7, ints(1), 0)}, {vw(7, ints(1, 1), 60, -60), nil, is(7, nil)}, {vw(5, ints(2, 1, 3), 3, 50, 1), ints(2, 1, 3), is(5, ints(2, 1, 3), 3, 0, 1)},
		// Shapes that need a copy, and others that split the same dimensions and do not.
		{cols, ints(12), nil}, {cols, ints(3, 4), nil}, {cols, ints(6, 2), nil}, {cols, ints(2, 6), nil}, {cols, ints(2, 2, 3), is(0, ints(2, 2, 3), 2, 1, 4)}, {cols, ints(4, 1, 3), is(0, ints(4, 1, 3), 1, 0, 4)},
		{vw(0, ints(3, 4), 12, 3), ints(12), is(0, ints(12), 3)}, {vw(0, ints(3, 4), 13, 3), ints(12), nil}, {vw(0, ints(3, 4), 13, 3), ints(3, 2, 2), is(0, ints(3, 2, 2), 13, 6, 3)}, {vw(0, ints(2, 2), 0, 1), ints(4), nil}, {vw(0, ints(2, 2), 1, 1), ints(4), nil}, {vw(0, ints(2, 2, 3), 6, 3, 1), ints(4, 3), is(0, ints(4, 3), 3, 1)}, {vw(0, ints(2, 2, 3), 8, 3, 1), ints(4, 3), nil}, {vw(0, ints(2, 2, 3), 8, 3, 1), ints(2, 6), is(0, ints(2, 6), 8, 1)},
		// Its first cells go on, but later ones do not.
		{vw(0, ints(2, 4), 9, 1), ints(8), nil}, {vw(0, ints(2, 3), 9, 1), ints(3, 2), nil},
		// Without indices all is 0, and any shape without them will do.
		{vw(60, ints(0), 60), ints(0), is(0, ints(0), 0)}, {vw(60, ints(0, 3), 5, 6), ints(60, 60, 0, 60), is(0, ints(60, 60, 0, 60), 0, 0, 0, 0)}, {vw(60, ints(3, 0), 5, 6), ints(0), is(0, ints(0), 0)},
		{m, ints(11), nil}, {m, ints(13), nil}, {m, nil, nil}, {m, ints(0), nil}, {m, ints(3, 3), nil}, {vw(60, ints(0), 1), nil, nil}, {vw(60, ints(0), 1), ints(1), nil}, {vw(7, nil), ints(0), nil}, {vw(7, nil), ints(2), nil},
		{m, ints(1, 1, 1, 1, 12), nil}, {m, ints(-3, -4), nil}, {vw(0, ints(0), 1), ints(0, 61), nil}, {vw(0, ints(0), 1), ints(0, 0, 0, 0, 0), nil}, {vw(0, ints(0), 1), ints(0, -1), nil},
	} {
		got, ok := impl.Reshape(c.v, c.shape)
		checkValue(t, "Reshape", c.v, got, ok, c.want)
	}
}

// TestReshapeFindsAllStrides tries all strides of two dimensions where Reshape finds none.
func TestReshapeFindsAllStrides(t *testing.T) {
	none := 0
	for _, v := range []impl.View{vw(0, ints(4, 3), 1, 4), vw(0, ints(2, 4), 9, 1), vw(30, ints(2, 4), -9, 2), vw(9, ints(2, 4), 0, 1), vw(9, ints(2, 2, 3), 1, 1, 1), vw(0, ints(2, 2, 3), 6, 3, 1), vw(20, ints(3, 4), -8, 2)} {
		cells := plainCells(v)
		for _, shape := range shapesOf(len(cells)) {
			if len(shape) != 2 {
				continue
			}
			_, ok := impl.Reshape(v, shape)
			found := false
			for _, strides := range tuples(plainNumbers(rng(-60, 61, 1)), 2) {
				w := impl.View{Base: v.Base, Shape: shape, Strides: strides}
				found = found || slices.Equal(plainCells(w), cells)
			}
			if ok != found {
				t.Errorf("Reshape(%v, %v) returns %v, but there are strides: %v", v, shape, ok, found)
			}
			if !found {
				none++
			}
		}
	}
	if none == 0 {
		t.Error("no shape needs a copy")
	}
}

func TestSplitDimValues(t *testing.T) {
	m := vw(2, ints(3, 4), 4, 1)
	for _, c := range []struct {
		v        impl.View
		d, outer int
		want     *impl.View
	}{
		{m, 1, 2, is(2, ints(3, 2, 2), 4, 2, 1)}, {m, 1, 1, is(2, ints(3, 1, 4), 4, 0, 1)}, {m, 1, 4, is(2, ints(3, 4, 1), 4, 1, 0)}, {m, 0, 3, is(2, ints(3, 1, 4), 4, 0, 1)}, {vw(59, ints(60), -1), 0, 12, is(59, ints(12, 5), -5, -1)}, {vw(4, ints(6), 0), 0, 2, is(4, ints(2, 3), 0, 0)},
		{vw(5, ints(1), 60), 0, 1, is(5, ints(1, 1), 0, 0)}, {vw(5, ints(1, 4), 60, 1), 1, 2, is(5, ints(1, 2, 2), 0, 2, 1)},
		{vw(60, ints(0), 7), 0, 1, is(0, ints(1, 0), 0, 0)}, {vw(60, ints(0), 7), 0, 60, is(0, ints(60, 0), 0, 0)}, {vw(60, ints(0, 6), 7, 8), 1, 2, is(0, ints(0, 2, 3), 0, 0, 0)},
		{m, 1, 3, nil}, {m, 1, 8, nil}, {m, 0, 2, nil}, {m, 1, 0, nil}, {m, 1, -1, nil}, {m, 1, -2, nil}, {m, 2, 1, nil}, {m, -1, 1, nil}, {vw(7, nil), 0, 1, nil}, {vw(60, ints(0), 7), 0, 61, nil}, {vw(60, ints(0), 7), 0, 0, nil}, {vw(60, ints(0), 7), 0, -1, nil}, {vw(5, ints(1), 60), 0, 2, nil}, {vw(0, ints(2, 2, 3, 5), 30, 15, 5, 1), 0, 1, nil}, {vw(0, ints(0, 0, 0, 0), 0, 0, 0, 0), 0, 1, nil},
		{m, 1, math.MaxInt, nil}, {m, 1, math.MinInt, nil}, {vw(60, ints(0), 7), 0, math.MaxInt, nil}, {m, math.MaxInt, 1, nil},
	} {
		got, ok := impl.SplitDim(c.v, c.d, c.outer)
		checkValue(t, "SplitDim", c.v, got, ok, c.want)
	}
}

func TestJoinDimsValues(t *testing.T) {
	m, cube := vw(2, ints(3, 4), 4, 1), vw(0, ints(3, 4, 5), 20, 5, 1)
	for _, c := range []struct {
		v    impl.View
		d    int
		want *impl.View
	}{
		{m, 0, is(2, ints(12), 1)}, {cube, 0, is(0, ints(12, 5), 5, 1)}, {cube, 1, is(0, ints(3, 20), 20, 1)}, {vw(59, ints(3, 4), -4, -1), 0, is(59, ints(12), -1)}, {vw(4, ints(3, 3), 0, 0), 0, is(4, ints(9), 0)},
		{vw(5, ints(1, 4), 60, 1), 0, is(5, ints(4), 1)}, {vw(5, ints(4, 1), 1, 60), 0, is(5, ints(4), 1)}, {vw(5, ints(1, 1), 60, -60), 0, is(5, ints(1), 0)}, {vw(5, ints(1, 4, 2), 60, 2, 1), 1, is(5, ints(1, 8), 0, 1)},
		{vw(60, ints(0, 3), 5, 6), 0, is(0, ints(0), 0)}, {vw(60, ints(2, 3, 0), 5, 6, 7), 0, is(0, ints(6, 0), 0, 0)}, {vw(60, ints(60, 60, 0), 5, 6, 7), 1, is(0, ints(60, 0), 0, 0)},
		{vw(60, ints(60, 60, 0), 5, 6, 7), 0, nil}, {vw(0, ints(4, 3), 1, 4), 0, nil}, {vw(0, ints(3, 4), 5, 1), 0, nil}, {vw(0, ints(2, 2), 0, 1), 0, nil}, {vw(3, ints(3, 4), 4, -1), 0, nil}, {vw(0, ints(3, 4, 5), 20, 1, 4), 1, nil},
		{m, 1, nil}, {m, 2, nil}, {m, -1, nil}, {cube, 2, nil}, {vw(7, nil), 0, nil}, {vw(7, nil), -1, nil}, {vw(0, ints(5), 1), 0, nil}, {vw(0, ints(5), 1), -1, nil}, {m, math.MaxInt, nil}, {m, math.MinInt, nil},
	} {
		got, ok := impl.JoinDims(c.v, c.d)
		checkValue(t, "JoinDims", c.v, got, ok, c.want)
	}
}

func TestSameViewValues(t *testing.T) {
	for _, c := range []struct {
		a, b impl.View
		want bool
	}{
		{vw(5, ints(1), 5), vw(5, ints(1), 0), true}, {vw(0, ints(1), 5), vw(0, ints(1), -60), true}, {vw(2, ints(3, 4), 4, 1), vw(2, ints(3, 4), 4, 1), true}, {vw(5, ints(2, 1, 3), 3, 50, 1), vw(5, ints(2, 1, 3), 3, 0, 1), true}, {vw(7, nil), vw(7, nil), true},
		// Without indices only the shapes matter.
		{vw(60, ints(0), 60), vw(0, ints(0), 0), true}, {vw(60, ints(3, 0), 5, 6), vw(1, ints(3, 0), -5, -6), true}, {vw(0, ints(3, 0), 0, 0), vw(0, ints(0, 3), 0, 0), false}, {vw(0, ints(0), 0), vw(0, ints(0, 0), 0, 0), false},
		// Equal cells do not make other shapes the same.
		{vw(0, ints(3, 4), 4, 1), vw(0, ints(12), 1), false}, {vw(0, ints(3, 4), 4, 1), vw(0, ints(4, 3), 3, 1), false}, {vw(7, nil), vw(7, ints(1), 0), false},
		{vw(0, ints(3), 1), vw(1, ints(3), 1), false}, {vw(0, ints(3), 1), vw(2, ints(3), -1), false}, {vw(0, ints(3), 1), vw(0, ints(3), 2), false}, {vw(0, ints(2, 2), 2, 1), vw(0, ints(2, 2), 1, 2), false}, {vw(7, nil), vw(8, nil), false},
	} {
		if impl.SameView(c.a, c.b) != c.want || impl.SameView(c.b, c.a) != c.want {
			t.Errorf("SameView(%v, %v) = %v, and the other way round %v", c.a, c.b, impl.SameView(c.a, c.b), impl.SameView(c.b, c.a))
		}
	}
}

// changes returns all results of changes of a view in the dimension d, each with whether it is one.
func changes(v impl.View, d int) (views []impl.View, oks []bool) {
	add := func(w impl.View, ok bool) {
		views, oks = append(views, w), append(oks, ok)
	}
	for _, i := range []int{-1, 0, 1} {
		add(impl.PickDim(v, d, i))
		add(impl.DiagonalOf(v, d, d+i))
		add(impl.DiagonalOf(v, d+i, d))
	}
	for _, n := range []int{1, 2, 5} {
		add(impl.WindowsOf(v, d, n))
		add(impl.SplitDim(v, d, n))
	}
	add(impl.SliceDim(v, d, open(1)))
	add(impl.FlipDim(v, d))
	add(impl.JoinDims(v, d))
	return views, oks
}

// TestChangesOfBadViews checks the fixed results for views that are not valid.
func TestChangesOfBadViews(t *testing.T) {
	for _, v := range badViews() {
		for d := -1; d <= 5; d++ {
			views, oks := changes(v, d)
			for i, got := range views {
				checkNone(t, "a change", v, got, oks[i])
			}
			got, ok := impl.AddDim(v, d)
			checkNone(t, "AddDim", v, got, ok)
		}
		for _, list := range [][]int{nil, {0}, {1}, {0, 1}, {1, 1}, {5, 5}, v.Shape, firstNumbers(len(v.Shape)), firstNumbers(len(v.Strides))} {
			for _, change := range []func(impl.View, []int) (impl.View, bool){impl.PermuteDims, impl.SpreadTo, impl.Reshape} {
				got, ok := change(v, list)
				checkNone(t, "a change", v, got, ok)
			}
		}
		if got := impl.DropOnes(v); !isZero(got) {
			t.Errorf("DropOnes(%v) = %v", v, got)
		}
		for _, w := range []impl.View{v, {}, vw(0, ints(0), 0), {Shape: v.Shape, Strides: make([]int, len(v.Shape))}} {
			if impl.SameView(v, w) || impl.SameView(w, v) {
				t.Errorf("SameView(%v, %v) holds", v, w)
			}
		}
	}
}

// TestBadDimsAndShapes checks the fixed results for dimensions that a valid view does not have, and for slices and shapes that are not valid.
func TestBadDimsAndShapes(t *testing.T) {
	for _, v := range edgeViews() {
		for _, d := range badDims(len(v.Shape)) {
			views, oks := changes(v, d)
			for i, got := range views {
				checkNone(t, "a change", v, got, oks[i])
			}
			if d != len(v.Shape) {
				got, ok := impl.AddDim(v, d)
				checkNone(t, "AddDim", v, got, ok)
			}
		}
		for d := range v.Shape {
			for _, s := range badSlices() {
				got, ok := impl.SliceDim(v, d, s)
				checkNone(t, "SliceDim", v, got, ok)
			}
		}
		for _, shape := range badShapes() {
			got, ok := impl.SpreadTo(v, shape)
			checkNone(t, "SpreadTo", v, got, ok)
			got, ok = impl.Reshape(v, shape)
			checkNone(t, "Reshape", v, got, ok)
		}
	}
}

// results returns a result of each function that changes a view with two dimensions of the extents 4 and 4.
func results(v impl.View, order []int, shape []int, spread []int) []impl.View {
	var list []impl.View
	add := func(w impl.View, ok bool) {
		list = append(list, w)
	}
	add(impl.SliceDim(v, 0, open(1)))
	add(impl.PickDim(v, 0, 1))
	add(impl.PermuteDims(v, order))
	add(impl.FlipDim(v, 1))
	add(impl.AddDim(v, 1))
	add(impl.DropOnes(v), true)
	add(impl.SpreadTo(v, spread))
	add(impl.DiagonalOf(v, 0, 1))
	add(impl.WindowsOf(v, 0, 4))
	add(impl.Reshape(v, shape))
	add(impl.SplitDim(v, 0, 2))
	add(impl.JoinDims(v, 0))
	return list
}

// TestChangesAreFresh checks that a changed view shares no memory with an argument, nor its shape with its strides, and that no argument is changed.
func TestChangesAreFresh(t *testing.T) {
	// Behind each argument there is more memory, which an append would write.
	whole := [][]int{ints(4, 4, 77, 77), ints(4, 1, 77, 77), ints(1, 0, 77, 77), ints(2, 8, 77, 77), ints(3, 4, 4, 77, 77)}
	given := [][]int{slices.Clone(whole[0]), slices.Clone(whole[1]), slices.Clone(whole[2]), slices.Clone(whole[3]), slices.Clone(whole[4])}
	v := impl.View{Base: 2, Shape: given[0][:2], Strides: given[1][:2]}
	call := func() []impl.View { return results(v, given[2][:2], given[3][:2], given[4][:3]) }
	before := call()
	for i, got := range call() {
		if !impl.ValidView(got) || isZero(got) {
			t.Fatalf("result %d is %v", i, got)
		}
		_, _ = append(got.Shape, 88), append(got.Strides, 99)
		for d := range got.Shape {
			got.Shape[d] = 44
		}
		for d := range got.Strides {
			if got.Strides[d] == 44 {
				t.Errorf("result %d shares memory of its shape and its strides", i)
			}
			got.Strides[d] = 55
		}
	}
	for i, list := range given {
		if !slices.Equal(list, whole[i]) {
			t.Errorf("an argument was changed to %v", list)
		}
	}
	for i, got := range call() {
		if !sameViews(got, before[i]) {
			t.Errorf("a later call sees what was written into result %d: %v, not %v", i, got, before[i])
		}
	}
	kept := call()
	for _, list := range given {
		for i := range list {
			list[i] = 33
		}
	}
	for i, got := range kept {
		if !sameViews(got, before[i]) {
			t.Errorf("result %d sees what is written into an argument: %v, not %v", i, got, before[i])
		}
	}
}

// TestCommonShapeIsFresh checks that a common shape shares no memory with either shape, also where it is equal to it.
func TestCommonShapeIsFresh(t *testing.T) {
	for _, c := range [][2][]int{{ints(2, 3), ints(2, 3)}, {ints(2, 3), nil}, {nil, ints(2, 3)}, {ints(2, 3), ints(1)}, {ints(1), ints(2, 3)}} {
		a, b := slices.Clone(c[0]), slices.Clone(c[1])
		got, ok := impl.CommonShape(a, b)
		if !ok || !slices.Equal(got, ints(2, 3)) {
			t.Fatalf("CommonShape(%v, %v) = %v, %v", a, b, got, ok)
		}
		got[0], got[1] = 44, 44
		_ = append(got, 55)
		if !slices.Equal(a, c[0]) || !slices.Equal(b, c[1]) {
			t.Errorf("CommonShape(%v, %v) shares memory with them", c[0], c[1])
		}
	}
}
