package tests

import (
	"math"
	"slices"
	"sync"
	"testing"

	"loop.example/strideviews/impl"
)

// edgeViews returns valid views of the kinds that the chapter treats on their own: without dimensions, without indices, with extents of 1 and of the whole memory, and with cells that come again.
func edgeViews() []impl.View {
	return []impl.View{
		vw(0, nil), vw(59, nil), vw(0, ints(60), 1), vw(59, ints(60), -1), vw(59, ints(60), 0), vw(3, ints(5), 2),
		// Without indices any base up to 60, and any stride, is valid.
		vw(60, ints(0), 60), vw(7, ints(0), -3), vw(60, ints(3, 0), 5, -60), vw(9, ints(0, 3), 60, 60), vw(1, ints(60, 0, 60), 60, -60, 60), vw(60, ints(0, 60, 60, 60), 1, 2, 3, 4), vw(5, ints(1, 0, 1), 7, 8, 9), vw(5, ints(0, 0), 7, 8),
		// Extents of 1 may have any stride.
		vw(5, ints(1), 60), vw(5, ints(1), -60), vw(5, ints(1, 1), 60, -60), vw(5, ints(1, 1, 1, 1), 9, -9, 0, 60), vw(5, ints(1, 4), -9, 1), vw(5, ints(4, 1), 1, 33), vw(5, ints(2, 1, 3), 3, 50, 1), vw(5, ints(1, 2, 1, 3), 11, 3, 12, 1),
		// Dense ones, ones with gaps, ones that go down, and ones that repeat cells.
		vw(0, ints(3, 4), 4, 1), vw(0, ints(4, 3), 1, 4), vw(2, ints(3, 4), 12, 3), vw(59, ints(3, 4), -4, -1), vw(20, ints(3, 3), -5, 6), vw(20, ints(3, 3), 5, -5), vw(4, ints(3, 3), 1, 1), vw(4, ints(3, 3), 0, 0), vw(4, ints(2, 3), 0, 1),
		vw(0, ints(3, 3, 3), 9, 3, 1), vw(0, ints(3, 4, 5), 20, 5, 1), vw(0, ints(3, 4, 5), 1, 3, 12), vw(30, ints(2, 3, 2), -9, 3, 1), vw(0, ints(2, 2, 3, 5), 30, 15, 5, 1), vw(59, ints(2, 2, 2, 2), -8, -4, -2, -1), vw(8, ints(2, 2, 2, 2), 1, -2, 3, -4),
	}
}

// someOf returns the first one of a list, and each further one that is so many behind the one before it.
func someOf[T any](list []T, apart int) []T {
	var some []T
	for i := 0; i < len(list); i += apart {
		some = append(some, list[i])
	}
	return some
}

// someViews returns fewer valid views, for tests that change each of them in many ways: most of them have indices.
var someViews = sync.OnceValue(func() []impl.View {
	var full, empty []impl.View
	for _, v := range manyViews() {
		if plainProduct(v.Shape) > 0 {
			full = append(full, v)
		} else {
			empty = append(empty, v)
		}
	}
	return slices.Concat(edgeViews(), someOf(full, 13), someOf(empty, 151))
})

// fewViews returns just some of them, for tests of many pairs of changes.
func fewViews() []impl.View {
	return append(edgeViews(), someOf(someViews(), 23)...)
}

// fewSlices returns valid slices of all kinds, but only some of them.
func fewSlices() []impl.Slice {
	return []impl.Slice{
		open(1), open(-1), open(2), open(-2), open(3), open(200), open(-200), open(60), from(1, 1), from(1, -1), from(-1, -3), from(-1, 1), from(-2, 2), from(100, -1), from(100, 1), from(-100, -1), from(-100, 3),
		to(0, 1), to(0, -1), to(1, -1), to(2, 1), to(-1, 1), to(-1, -1), to(-100, 1), to(-100, -2), to(100, 2), between(1, 3, 1), between(3, 1, -1), between(2, 1, 1), between(0, 1, 1), between(1, 2, 5), between(1, 60, 2), between(4, -100, -2), between(-3, -1, 1), between(0, 0, -1),
	}
}

// manyOrders returns all orders of n dimensions.
func manyOrders(n int) [][]int {
	var list [][]int
	for _, order := range tuples(firstNumbers(n), n) {
		if slices.Equal(slices.Compact(slices.Sorted(slices.Values(order))), firstNumbers(n)) {
			list = append(list, order)
		}
	}
	return list
}

// badOrders returns lists that are no orders of n dimensions.
func badOrders(n int) [][]int {
	list := [][]int{firstNumbers(n + 1), make([]int, n+1), slices.Repeat(ints(0), n+2)}
	if n > 0 {
		list = append(list, nil, firstNumbers(n-1))
	}
	for i := range n {
		for _, d := range []int{-1, n, (i + 1) % n, math.MaxInt, math.MinInt} {
			if order := firstNumbers(n); d != i {
				order[i] = d
				list = append(list, order)
			}
		}
	}
	return list
}

// badDims returns numbers that are no dimensions of a view with n of them.
func badDims(n int) []int {
	return []int{-1, -n - 1, n, n + 1, math.MaxInt, math.MinInt, math.MaxInt - 1}
}

// without returns a list without one of its numbers.
func without(list []int, d int) []int {
	return slices.Delete(slices.Clone(list), d, d+1)
}

// with returns a list with another number at a place.
func with(list []int, d int, x int) []int {
	out := slices.Clone(list)
	out[d] = x
	return out
}

// inserted returns a list with more numbers at a place.
func inserted(list []int, at int, more ...int) []int {
	return slices.Insert(slices.Clone(list), at, more...)
}

// strideOf returns a stride, but 0 for extents of 0 and 1.
func strideOf(extent int, stride int) int {
	if extent < 2 {
		return 0
	}
	return stride
}

// cleared returns a view, but with the base 0 and strides of 0 if it has no indices.
func cleared(v impl.View) impl.View {
	if plainProduct(v.Shape) == 0 {
		return impl.View{Shape: v.Shape, Strides: make([]int, len(v.Shape))}
	}
	return v
}

// plainSame reports whether two views have an equal shape, and a walk comes to the same cells in both.
func plainSame(a impl.View, b impl.View) bool {
	return slices.Equal(a.Shape, b.Shape) && slices.Equal(plainCells(a), plainCells(b))
}

// checkView fails if a result is not the view want, or if this one is not valid.
func checkView(t *testing.T, what string, v impl.View, got impl.View, ok bool, want impl.View) {
	t.Helper()
	if !ok || !sameViews(got, want) {
		t.Fatalf("%s of %v = %v, %v, not %v", what, v, got, ok, want)
	}
	if !plainValid(got) || !impl.ValidView(got) {
		t.Fatalf("%s of %v = %v, which is not valid", what, v, got)
	}
}

// checkNone fails if a result is not the zero value and false.
func checkNone(t *testing.T, what string, v impl.View, got impl.View, ok bool) {
	t.Helper()
	if ok || !isZero(got) {
		t.Fatalf("%s of %v = %v, %v", what, v, got, ok)
	}
}

// checkBack fails if the cell of an index of a view is not that of the index of v that back returns for it.
func checkBack(t *testing.T, what string, v impl.View, got impl.View, back func(index []int) []int) {
	t.Helper()
	for _, index := range plainWalk(got.Shape) {
		if plainCell(got, index) != plainCell(v, back(index)) {
			t.Fatalf("%s of %v = %v has at %v another cell than %v", what, v, got, index, back(index))
		}
	}
}

// plainCommon returns the shape to which two shapes are spread, from the last dimension on, and whether there is one.
func plainCommon(a []int, b []int) ([]int, bool) {
	var shape []int
	for i := 1; i <= len(a) || i <= len(b); i++ {
		extent := 0
		switch {
		case i > len(a):
			extent = b[len(b)-i]
		case i > len(b) || a[len(a)-i] == b[len(b)-i] || b[len(b)-i] == 1:
			extent = a[len(a)-i]
		case a[len(a)-i] == 1:
			extent = b[len(b)-i]
		default:
			return nil, false
		}
		shape = append(ints(extent), shape...)
	}
	return shape, plainProduct(shape) <= 60
}

// plainSpread returns a valid view spread to a valid shape, and whether that is possible.
func plainSpread(v impl.View, shape []int) (impl.View, bool) {
	ahead := len(shape) - len(v.Shape)
	if ahead < 0 {
		return impl.View{}, false
	}
	strides := make([]int, len(shape))
	for d, extent := range v.Shape {
		switch {
		case extent == shape[ahead+d]:
			strides[ahead+d] = v.Strides[d]
		case extent != 1:
			return impl.View{}, false
		}
	}
	return cleared(impl.View{Base: v.Base, Shape: shape, Strides: strides}), true
}

// shapesTo returns shapes with 0 up to 4 dimensions for spreading a shape: some with the extents that it has, others with other ones, and with more dimensions ahead or with fewer of them.
func shapesTo(shape []int) [][]int {
	list := [][]int{{}}
	for _, extent := range shape {
		var more [][]int
		for _, rest := range list {
			for _, x := range slices.Compact(slices.Sorted(slices.Values(ints(extent, 0, 1, 2, extent+1)))) {
				more = append(more, inserted(rest, len(rest), x))
			}
		}
		list = more
	}
	for _, extent := range []int{0, 1, 3} {
		list = append(list, inserted(shape, 0, extent), inserted(shape, 0, extent, 1), inserted(shape, 0, 2, extent, 1), inserted(shape, 0, 1, 1, 1, extent))
	}
	if len(shape) > 0 {
		list = append(list, shape[1:], shape[:len(shape)-1], nil)
	}
	return slices.DeleteFunc(list, func(shape []int) bool { return !plainShape(shape) })
}

// plainShape reports whether a shape is valid.
func plainShape(shape []int) bool {
	return len(shape) <= 4 && plainProduct(shape) <= 60 && !slices.ContainsFunc(shape, func(n int) bool { return n < 0 || n > 60 })
}

// shapesOf returns all shapes with n indices, but only some for 0.
func shapesOf(n int) [][]int {
	if n == 0 {
		return [][]int{{0}, {60, 0}, {0, 1}, {0, 0}, {1, 0, 5}, {60, 60, 0}, {0, 3, 3, 3}, {60, 0, 60, 60}, {0, 0, 0, 0}}
	}
	var divisors []int
	for x := 1; x <= n; x++ {
		if n%x == 0 {
			divisors = append(divisors, x)
		}
	}
	var list [][]int
	for dims := 0; dims <= 4; dims++ {
		for _, shape := range tuples(divisors, dims) {
			if plainProduct(shape) == n {
				list = append(list, shape)
			}
		}
	}
	return list
}

// shapesByCount returns shapesOf each number of indices.
var shapesByCount = sync.OnceValue(func() [][][]int {
	var list [][][]int
	for n := range impl.MaxCells + 1 {
		list = append(list, shapesOf(n))
	}
	return list
})

// run is a run of the cells of a view: so many cells that go on by one stride.
type run struct{ count, stride int }

// runsOf returns the runs of a view with indices, the last dimension first: a dimension whose cells go on from the end of the one behind it is of the same run.
func runsOf(v impl.View) []run {
	var list []run
	for d := len(v.Shape) - 1; d >= 0; d-- {
		last := len(list) - 1
		switch {
		case v.Shape[d] == 1:
		case last >= 0 && v.Strides[d] == list[last].stride*list[last].count:
			list[last].count *= v.Shape[d]
		default:
			list = append(list, run{v.Shape[d], v.Strides[d]})
		}
	}
	return list
}

// plainReshape returns a valid view with another shape with as many indices, and whether that is possible: each run has to be shared by whole dimensions.
func plainReshape(v impl.View, shape []int) (impl.View, bool) {
	out := impl.View{Shape: shape, Strides: make([]int, len(shape))}
	if plainProduct(shape) == 0 {
		return out, true
	}
	out.Base = v.Base
	runs, used := runsOf(v), 1
	for d := len(shape) - 1; d >= 0; d-- {
		if shape[d] == 1 {
			continue
		}
		if used == runs[0].count {
			runs, used = runs[1:], 1
		}
		if runs[0].count%(used*shape[d]) != 0 {
			return impl.View{}, false
		}
		out.Strides[d] = runs[0].stride * used
		used *= shape[d]
	}
	return out, true
}
