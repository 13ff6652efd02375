package tests

import (
	"iter"
	"slices"
	"sync"

	"loop.example/strideviews/impl"
)

// lacedViews returns views whose bounds meet, though many of them have no cell in common: views that interlace, views with gaps, and views that repeat cells.
func lacedViews() []impl.View {
	return []impl.View{
		// Even and odd cells, and every third one, upwards and downwards.
		vw(0, ints(30), 2), vw(1, ints(30), 2), vw(58, ints(30), -2), vw(59, ints(30), -2), vw(0, ints(20), 3), vw(1, ints(20), 3), vw(59, ints(20), -3), vw(0, ints(2), 59), vw(1, ints(2), 57),
		// Both halves of rows, and every second row.
		vw(0, ints(4, 3), 6, 1), vw(3, ints(4, 3), 6, 1), vw(23, ints(4, 3), -6, -1), vw(0, ints(3, 10), 20, 1), vw(10, ints(3, 10), 20, 1), vw(0, ints(2, 2), 10, 1), vw(2, ints(2, 4), 10, 2), vw(0, ints(2, 2, 2), 16, 8, 1), vw(2, ints(2, 2, 2), 16, 8, 1), vw(2, ints(2, 2, 2, 2), 32, 16, 8, 1),
		// Cells of several indices, with and without gaps.
		vw(0, ints(4, 3), 1, 1), vw(0, ints(4, 3), 2, 2), vw(1, ints(4, 3), 2, 2), vw(20, ints(3, 4), -2, 3), vw(0, ints(3, 3), 2, 3), vw(5, ints(3, 2), 0, 1), vw(5, ints(3, 2), 4, 0), vw(7, ints(60), 0), vw(30, ints(3, 4, 5), -1, 0, 2), vw(0, ints(2, 2, 2, 2), 1, 2, 3, 4),
		// One cell between those of others.
		vw(1, nil), vw(30, nil), vw(30, ints(1), 60), vw(31, ints(1, 1), 60, -60),
	}
}

// smallViews returns all valid views of some shapes that have only the cells 0 up to 4.
var smallViews = sync.OnceValue(func() []impl.View {
	var list []impl.View
	for _, shape := range [][]int{nil, {0}, {1}, {2}, {3}, {5}, {2, 2}, {3, 2}} {
		for _, strides := range tuples(ints(-3, -2, -1, 0, 1, 2, 3), len(shape)) {
			for base := range 5 {
				v := vw(base, shape, strides...)
				if plainValid(v) && !slices.ContainsFunc(plainCells(v), func(x int) bool { return x > 4 }) {
					list = append(list, v)
				}
			}
		}
	}
	return list
})

// pairViews returns valid views of all kinds, few enough to go through all pairs of them.
var pairViews = sync.OnceValue(func() []impl.View {
	return slices.Concat(edgeViews(), lacedViews(), someOf(smallViews(), 7), someOf(someViews(), 61))
})

// pairsOf goes through all pairs of views, those of a view and itself included, each both ways round.
func pairsOf(list []impl.View) iter.Seq2[impl.View, impl.View] {
	return func(yield func(impl.View, impl.View) bool) {
		for _, a := range list {
			for _, b := range list {
				if !yield(a, b) {
					return
				}
			}
		}
	}
}

// manyLines returns valid views of one dimension: upwards, downwards, with one cell for all indices, with one index, and without any.
func manyLines() []impl.View {
	var list []impl.View
	for base := range 61 {
		for stride := -60; stride <= 60; stride++ {
			for extent := 0; extent <= 60; extent++ {
				if extent > 3 && (extent+base)%7 > 0 && extent < 58 {
					continue
				}
				if v := vw(base, ints(extent), stride); plainValid(v) {
					list = append(list, v)
				}
			}
		}
	}
	return list
}

// plainTimes tells for each cell how often walks through views come to it.
func plainTimes(list ...impl.View) [impl.MaxCells]int {
	var times [impl.MaxCells]int
	for _, v := range list {
		for _, cell := range plainCells(v) {
			times[cell]++
		}
	}
	return times
}

// cellsWhere returns the cells for which a question is answered with yes, ascending.
func cellsWhere(yes func(x int) bool) []int {
	return slices.DeleteFunc(firstNumbers(impl.MaxCells), func(x int) bool { return !yes(x) })
}

// plainMet returns the cells to which a walk through a view comes so many times or more.
func plainMet(v impl.View, least int) []int {
	times := plainTimes(v)
	return cellsWhere(func(x int) bool { return times[x] >= least })
}

// plainOverlap returns the cells to which walks through both views come.
func plainOverlap(a impl.View, b impl.View) []int {
	ofA, ofB := plainTimes(a), plainTimes(b)
	return cellsWhere(func(x int) bool { return ofA[x] > 0 && ofB[x] > 0 })
}

// plainBetween returns the cells from the least one to which a walk through a view comes to the greatest one.
func plainBetween(v impl.View) []int {
	cells := plainCells(v)
	if len(cells) == 0 {
		return nil
	}
	return plainNumbers(rng(slices.Min(cells), slices.Max(cells)+1, 1))
}

// plainTiles reports whether walks through some views come once to each cell less than size, and to no other one.
func plainTiles(list []impl.View, size int) bool {
	for x, times := range plainTimes(list...) {
		if x < size && times != 1 || x >= size && times != 0 {
			return false
		}
	}
	return true
}

// dealtViews returns views to which the cells of a memory are dealt in turn, some of them turned round.
func dealtViews(size int, ways int) []impl.View {
	var list []impl.View
	for i := range ways {
		n := (size - i + ways - 1) / ways
		v := vw(i, ints(n), ways)
		if i%2 == 1 && n > 0 {
			v = vw(i+(n-1)*ways, ints(n), -ways)
		}
		list = append(list, v)
	}
	return list
}

// blockViews returns views of a matrix with rows times cols blocks of a height and a width.
func blockViews(rows int, cols int, height int, width int) []impl.View {
	var list []impl.View
	for r := range rows {
		for c := range cols {
			list = append(list, vw(r*height*cols*width+c*width, ints(height, width), cols*width, 1))
		}
	}
	return list
}

// manyTilings returns lists of at most eight views, each of which tiles the memory of the size.
func manyTilings(size int) [][]impl.View {
	list := [][]impl.View{{vw(0, ints(size), 1)}, {vw(60, ints(0), 60), vw(0, ints(1, size), 60, 1)}}
	for ways := 1; ways <= impl.MaxViews && ways <= size; ways++ {
		list = append(list, dealtViews(size, ways))
	}
	for _, shape := range shapesByCount()[size] {
		if rows, cols := shape[:len(shape)/2], shape[len(shape)/2:]; len(shape) == 4 && rows[0]*cols[0] <= impl.MaxViews {
			list = append(list, blockViews(rows[0], cols[0], rows[1], cols[1]))
		}
	}
	for cut := range size {
		list = append(list, []impl.View{vw(0, ints(cut), 1), vw(size-1, ints(size-cut), -1)})
	}
	return list
}

// nearTilings returns lists that are made of a list of views with one change: a view is left out, comes again, is moved, loses its last index or repeats it, or one more view is there.
func nearTilings(list []impl.View) [][]impl.View {
	var out [][]impl.View
	for i, v := range list {
		changed := []impl.View{vw(v.Base+1, v.Shape, v.Strides...), vw(v.Base-1, v.Shape, v.Strides...)}
		if n := len(v.Shape); n > 0 {
			changed = append(changed, impl.View{Base: v.Base, Shape: with(v.Shape, 0, v.Shape[0]-1), Strides: v.Strides})
			if n < impl.MaxDims {
				changed = append(changed, impl.View{Base: v.Base, Shape: inserted(v.Shape, n, 2), Strides: inserted(v.Strides, n, 0)})
			}
		}
		out = append(out, slices.Delete(slices.Clone(list), i, i+1), append(slices.Clone(list), v))
		for _, w := range changed {
			if plainValid(w) {
				out = append(out, slices.Replace(slices.Clone(list), i, i+1, w))
			}
		}
	}
	return append(out, append(slices.Clone(list), vw(60, ints(0), 1)), append(slices.Clone(list), vw(59, nil)), append(slices.Clone(list), vw(0, nil)))
}
