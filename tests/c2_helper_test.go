package tests

import (
	"math"
	"slices"
	"sync"

	"loop.example/strideviews/impl"
)

// ints returns a list of numbers.
func ints(n ...int) []int {
	return n
}

// vw returns a view.
func vw(base int, shape []int, strides ...int) impl.View {
	return impl.View{Base: base, Shape: shape, Strides: strides}
}

// sameViews reports whether two views are equal in all fields.
func sameViews(a impl.View, b impl.View) bool {
	return a.Base == b.Base && slices.Equal(a.Shape, b.Shape) && slices.Equal(a.Strides, b.Strides)
}

// isZero reports whether a view is the zero value.
func isZero(v impl.View) bool {
	return sameViews(v, impl.View{})
}

// tuples returns all lists of n of some numbers.
func tuples(numbers []int, n int) [][]int {
	if n == 0 {
		return [][]int{{}}
	}
	var list [][]int
	for _, first := range numbers {
		for _, rest := range tuples(numbers, n-1) {
			list = append(list, append([]int{first}, rest...))
		}
	}
	return list
}

// plainProduct multiplies numbers.
func plainProduct(numbers []int) int {
	n := 1
	for _, x := range numbers {
		n *= x
	}
	return n
}

// plainWalk returns all indices of a shape, the last number going on first.
func plainWalk(shape []int) [][]int {
	if slices.Contains(shape, 0) {
		return nil
	}
	if len(shape) == 0 {
		return [][]int{{}}
	}
	var list [][]int
	for first := range shape[0] {
		for _, rest := range plainWalk(shape[1:]) {
			list = append(list, append([]int{first}, rest...))
		}
	}
	return list
}

// plainCell returns the cell of an index of a view.
func plainCell(v impl.View, index []int) int {
	cell := v.Base
	for d, i := range index {
		cell += i * v.Strides[d]
	}
	return cell
}

// plainCells returns the cells of a view in the order of a walk through its indices.
func plainCells(v impl.View) []int {
	var list []int
	for _, index := range plainWalk(v.Shape) {
		list = append(list, plainCell(v, index))
	}
	return list
}

// plainColumn returns where an index is in a walk in which the first number goes on first.
func plainColumn(shape []int, index []int) int {
	place, width := 0, 1
	for d, i := range index {
		place += i * width
		width *= shape[d]
	}
	return place
}

// turned returns a view with its dimensions in reverse order.
func turned(v impl.View) impl.View {
	return impl.View{Base: v.Base, Shape: backward(v.Shape), Strides: backward(v.Strides)}
}

// manyShapes returns valid shapes with 0 up to 4 dimensions, those at the limits included.
func manyShapes() [][]int {
	var list [][]int
	for dims := 0; dims <= impl.MaxDims; dims++ {
		for _, shape := range tuples(ints(0, 1, 2, 3, 4, 5, 7, 12, 30, 59, 60), dims) {
			if plainProduct(shape) <= impl.MaxCells {
				list = append(list, shape)
			}
		}
	}
	return list
}

// badShapes returns shapes that are not valid.
func badShapes() [][]int {
	return [][]int{
		{61}, {-1}, {61, 0}, {0, 61}, {2, -1}, {-1, -1}, {0, -1}, {-1, 0}, {7, 9}, {61, 1}, {5, 5, 5}, {1, 1, 61}, {2, 2, 4, 4},
		{60, 60}, {60, 60, 60, 60}, {1, 1, 1, 1, 1}, {0, 0, 0, 0, 0}, {60, 60, 60, 60, 0}, {1, 1, 1, 1, 1, 1},
		{math.MaxInt}, {math.MinInt}, {0, math.MaxInt}, {math.MinInt, 0}, {1 << 32, 1 << 32}, {1 << 62, 4}, {math.MinInt, 2}, {math.MaxInt, -1},
	}
}

// sizedViews returns views, valid ones and others, whose shapes, strides and bases have sizes up to the limits and one beyond them.
func sizedViews() []impl.View {
	extents := [][]int{{}, {0, 1, 2, 3, 6, 30, 59, 60}, {0, 1, 2, 3, 5, 12, 30, 60}, {0, 1, 2, 5}, {0, 1, 2}}
	strides := [][]int{{}, {-61, -60, -59, -30, -7, -2, -1, 0, 1, 2, 3, 5, 20, 59, 60, 61}, {-61, -60, -12, -3, -1, 0, 1, 2, 5, 12, 30, 60, 61}, {-60, -3, 0, 1, 2, 6}, {-4, 0, 1, 8}}
	bases := [][]int{{-1, 0, 1, 30, 58, 59, 60, 61}, {-1, 0, 1, 2, 29, 30, 57, 58, 59, 60, 61}, {-1, 0, 1, 12, 30, 59, 60, 61}, {0, 5, 59, 60}, {0, 9}}
	var list []impl.View
	for dims, some := range extents {
		for _, shape := range tuples(some, dims) {
			for _, steps := range tuples(strides[dims], dims) {
				for _, base := range bases[dims] {
					list = append(list, impl.View{Base: base, Shape: shape, Strides: steps})
				}
			}
		}
	}
	return list
}

// plainValid reports whether a view is valid, by a walk through its cells.
func plainValid(v impl.View) bool {
	if v.Base < 0 || v.Base > 60 || len(v.Shape) > 4 || len(v.Strides) != len(v.Shape) || plainProduct(v.Shape) > 60 {
		return false
	}
	if slices.ContainsFunc(v.Shape, func(n int) bool { return n < 0 || n > 60 }) || slices.ContainsFunc(v.Strides, func(n int) bool { return n < -60 || n > 60 }) {
		return false
	}
	return !slices.ContainsFunc(plainCells(v), func(n int) bool { return n < 0 || n > 59 })
}

// manyViews returns valid views of all kinds: without dimensions, without indices, and with strides of 0 and negative ones.
// They are chosen by a walk through their cells, and new views of all shapes come with them.
var manyViews = sync.OnceValue(func() []impl.View {
	var list []impl.View
	for _, v := range sizedViews() {
		if plainValid(v) {
			list = append(list, v)
		}
	}
	for _, shape := range manyShapes() {
		if plainProduct(shape) > 0 {
			list = append(list, vw(0, shape, plainRow(shape)...), vw(60-plainProduct(shape), shape, plainRow(shape)...), turned(vw(0, shape, plainRow(shape)...)))
		}
	}
	return list
})

// plainRow returns the strides with which a walk through a shape goes on by 1.
func plainRow(shape []int) []int {
	strides := make([]int, len(shape))
	for d := range shape {
		strides[d] = plainProduct(shape[d+1:])
	}
	return strides
}

// badViews returns views that are not valid.
func badViews() []impl.View {
	list := []impl.View{
		// Strides that are too many, too few or too great, with and without indices.
		vw(0, ints(3)), vw(0, nil, 1), vw(0, ints(3), 1, 1), vw(0, ints(2, 3), 1), vw(0, ints(0)), vw(0, ints(0), 0, 0),
		vw(0, ints(1), 61), vw(59, ints(1), -61), vw(0, ints(0), 61), vw(0, ints(0), -61), vw(0, ints(0, 60, 60), 3600, 60, 1),
		vw(0, ints(1), math.MaxInt), vw(0, ints(1), math.MinInt), vw(0, ints(3), math.MaxInt), vw(0, ints(3), math.MinInt), vw(0, ints(5, 5), 1<<62, 1<<62),
		// Bases that are too great or too small.
		vw(-1, nil), vw(60, nil), vw(61, nil), vw(-1, ints(0), 1), vw(61, ints(0), 1), vw(61, ints(2), -1), vw(-1, ints(3), 1),
		vw(math.MaxInt, nil), vw(math.MinInt, nil), vw(math.MaxInt, ints(0), 1), vw(math.MaxInt, ints(3), 60), vw(math.MinInt, ints(3), -60),
		// Cells below the first one or behind the last one.
		vw(0, ints(3), -1), vw(1, ints(3), -1), vw(58, ints(3), 1), vw(60, ints(1), 0), vw(60, ints(2), -1), vw(60, ints(60), -1), vw(0, ints(2), 60), vw(0, ints(31), 2),
		vw(10, ints(3, 3), -5, -1), vw(9, ints(3, 3), -5, 6), vw(48, ints(3, 3), 5, 1), vw(30, ints(2, 2, 2), 10, 10, 10), vw(5, ints(2, 2, 2, 2), -1, -2, -3, 9),
	}
	for _, shape := range badShapes() {
		list = append(list, impl.View{Shape: shape, Strides: make([]int, len(shape))})
	}
	return list
}

// badIndices returns indices that a shape does not have.
func badIndices(shape []int) [][]int {
	list := [][]int{make([]int, len(shape)+1), make([]int, len(shape)+5)}
	if len(shape) > 0 {
		list = append(list, nil, make([]int, len(shape)-1))
	}
	for d, extent := range shape {
		for _, i := range []int{-1, extent, extent + 1, -extent - 1, 60, math.MaxInt, math.MinInt} {
			if i < 0 || i >= extent {
				index := make([]int, len(shape))
				index[d] = i
				list = append(list, index)
			}
		}
	}
	return list
}
