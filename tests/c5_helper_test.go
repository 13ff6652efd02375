package tests

import (
	"fmt"
	"iter"
	"math"
	"slices"
	"sync"
	"testing"

	"loop.example/strideviews/impl"
)

// ownValues returns a memory of n cells with different values.
func ownValues(n int) []int {
	mem := make([]int, n)
	for x := range mem {
		mem[x] = (11 + 37*x) % 256
	}
	return mem
}

// manyMemories returns memories of some sizes: with different values, with values that come again, and with the least and the greatest one.
func manyMemories() [][]int {
	var list [][]int
	for _, n := range []int{0, 1, 2, 5, 6, 29, 59, 60} {
		some := ownValues(n)
		for x := range some {
			some[x] = some[x] % 3 * 127
		}
		list = append(list, ownValues(n), some, make([]int, n), slices.Repeat(ints(255), n))
	}
	return list
}

// badMemories returns lists of numbers that are no memory.
func badMemories() [][]int {
	list := [][]int{make([]int, 61), ownValues(61), make([]int, 120), slices.Repeat(ints(-1), 60), slices.Repeat(ints(256), 60), ints(-1), ints(256)}
	for _, x := range []int{0, 30, 59} {
		for _, value := range []int{-1, 256, -256, math.MaxInt, math.MinInt} {
			list = append(list, with(ownValues(60), x, value))
		}
	}
	return list
}

// valuesFor returns as many different values as a view has indices.
func valuesFor(v impl.View) []int {
	values := make([]int, plainProduct(v.Shape))
	for k := range values {
		values[k] = (3 + 101*k) % 256
	}
	return values
}

// memoryViews returns valid views of all kinds.
var memoryViews = sync.OnceValue(func() []impl.View {
	return slices.Concat(edgeViews(), lacedViews(), smallViews(), someOf(someViews(), 3))
})

// sizesFor returns the size of the memory in which a valid view just fits, and those of others in which it fits, too.
func sizesFor(v impl.View) []int {
	least := 0
	for _, cell := range plainCells(v) {
		least = max(least, cell+1)
	}
	return slices.Compact(ints(least, min(least+1, 60), 60))
}

// fitting goes through memories with different values, and valid views that fit in them.
func fitting(views []impl.View) iter.Seq2[[]int, impl.View] {
	return func(yield func(mem []int, v impl.View) bool) {
		for _, v := range views {
			for _, n := range sizesFor(v) {
				if !yield(ownValues(n), v) {
					return
				}
			}
		}
	}
}

// isOnce reports whether no cell comes twice.
func isOnce(cells []int) bool {
	return len(slices.Compact(slices.Sorted(slices.Values(cells)))) == len(cells)
}

// haveCommon reports whether two lists have a cell in common.
func haveCommon(a []int, b []int) bool {
	return slices.ContainsFunc(a, func(x int) bool { return slices.Contains(b, x) })
}

// plainStored returns a memory after values were stored in cells, one after the other.
func plainStored(mem []int, cells []int, values []int) []int {
	after := append([]int{}, mem...)
	for k, cell := range cells {
		after[cell] = values[k]
	}
	return after
}

// plainCarried returns a memory after one cell was copied to another one for each rank, in the order of the ranks.
func plainCarried(mem []int, to []int, from []int, ranks []int) []int {
	after := append([]int{}, mem...)
	for _, k := range ranks {
		after[to[k]] = after[from[k]]
	}
	return after
}

// plainAdded returns a memory after values were added to cells: each cell is gone through once, and gets all of its values.
func plainAdded(mem []int, cells []int, values []int) []int {
	after := append([]int{}, mem...)
	for x := range after {
		for k, cell := range cells {
			if cell == x {
				after[x] += values[k]
			}
		}
		for after[x] >= 256 {
			after[x] -= 256
		}
	}
	return after
}

// plainWay returns how cells can be copied to others, by all pairs of ranks.
func plainWay(to []int, from []int) int {
	forward, backward := true, isOnce(to)
	for i := range to {
		for j := range from {
			if to[i] == from[j] && i < j {
				forward = false
			}
			if to[i] == from[j] && i > j {
				backward = false
			}
		}
	}
	switch {
	case forward:
		return 0
	case backward:
		return 1
	}
	return 2
}

// turnedOver returns a valid view with one dimension in reverse order.
func turnedOver(v impl.View, d int) impl.View {
	base := v.Base + (v.Shape[d]-1)*v.Strides[d]
	return impl.View{Base: base, Shape: v.Shape, Strides: with(v.Strides, d, -v.Strides[d])}
}

// turnedAround returns a valid view with indices with all dimensions in reverse order: the last index is the first one.
func turnedAround(v impl.View) impl.View {
	for d := range v.Shape {
		v = turnedOver(v, d)
	}
	return v
}

// nearViews returns valid views with the shape of a view that are near it: itself, moved up and down, flipped, with two dimensions exchanged, and with repeated cells.
func nearViews(v impl.View) []impl.View {
	var list []impl.View
	for _, far := range []int{0, -1, 1, -2, 2, 5, -13} {
		list = append(list, vw(v.Base+far, v.Shape, v.Strides...))
	}
	for d := range v.Shape {
		list = append(list, turnedOver(v, d), vw(v.Base, v.Shape, with(v.Strides, d, 0)...), vw(v.Base, v.Shape, with(v.Strides, d, v.Strides[d]+1)...))
		if d > 0 {
			swapped := with(with(v.Strides, d, v.Strides[d-1]), d-1, v.Strides[d])
			list = append(list, vw(v.Base, v.Shape, swapped...))
		}
	}
	return slices.DeleteFunc(list, func(v impl.View) bool { return !plainValid(v) })
}

// twoViews are two valid views with an equal shape, and their cells in order.
type twoViews struct {
	to, from           impl.View
	toCells, fromCells []int
}

// twoOf returns two views with their cells.
func twoOf(to impl.View, from impl.View) twoViews {
	return twoViews{to, from, plainCells(to), plainCells(from)}
}

// once reports whether both views are one to one.
func (p twoViews) once() bool {
	return isOnce(p.toCells) && isOnce(p.fromCells)
}

// copyPairs returns pairs of views with an equal shape, both ways round: all small views of a shape, and of each other view those that are near it.
var copyPairs = sync.OnceValue(func() []twoViews {
	var list []twoViews
	byShape := map[string][]impl.View{}
	for _, v := range smallViews() {
		shape := fmt.Sprint(v.Shape)
		for _, w := range byShape[shape] {
			list = append(list, twoOf(v, w), twoOf(w, v))
		}
		list = append(list, twoOf(v, v))
		byShape[shape] = append(byShape[shape], v)
	}
	for _, v := range slices.Concat(edgeViews(), lacedViews(), someOf(someViews(), 11)) {
		for _, w := range nearViews(v) {
			list = append(list, twoOf(v, w), twoOf(w, v))
		}
	}
	return list
})

// memoryFor returns a memory with different values in which both views fit.
func (p twoViews) memoryFor() []int {
	return ownValues(max(sizesFor(p.to)[0], sizesFor(p.from)[0]))
}

// checkMemory fails if a result is not the memory want.
func checkMemory(t *testing.T, got []int, ok bool, want []int, what string, v ...impl.View) {
	t.Helper()
	if !ok || !slices.Equal(got, want) {
		t.Fatalf("%s of %v = %v, %v, not %v", what, v, got, ok, want)
	}
	if !impl.ValidMemory(got) {
		t.Fatalf("%s of %v = %v is no memory", what, v, got)
	}
}

// checkNoMemory fails if a result is not nil and false.
func checkNoMemory(t *testing.T, got []int, ok bool, what string, v ...impl.View) {
	t.Helper()
	if ok || len(got) != 0 {
		t.Fatalf("%s of %v = %v, %v", what, v, got, ok)
	}
}

// badValues returns lists that are no values for n indices: with a value that no cell can have, or with another number of them.
func badValues(n int) [][]int {
	list := [][]int{make([]int, n+1), make([]int, n+60)}
	if n > 0 {
		list = append(list, nil, make([]int, n-1))
	}
	for _, k := range slices.Compact(ints(0, n/2, n-1)) {
		for _, value := range []int{-1, 256, math.MaxInt, math.MinInt} {
			if k >= 0 && k < n {
				list = append(list, with(make([]int, n), k, value))
			}
		}
	}
	return list
}
