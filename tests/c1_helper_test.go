package tests

import (
	"math"
	"slices"

	"loop.example/strideviews/impl"
)

// rng returns a range.
func rng(start int, stop int, step int) impl.Range {
	return impl.Range{Start: start, Stop: stop, Step: step}
}

// noRange is the normal form of all ranges without numbers.
var noRange = rng(0, 0, 1)

// open returns a slice without ends.
func open(by int) impl.Slice {
	return impl.Slice{By: by}
}

// from returns a slice with its first end.
func from(end int, by int) impl.Slice {
	return impl.Slice{From: end, By: by, HasFrom: true}
}

// to returns a slice with its last end.
func to(end int, by int) impl.Slice {
	return impl.Slice{To: end, By: by, HasTo: true}
}

// between returns a slice with both ends.
func between(first int, last int, by int) impl.Slice {
	return impl.Slice{From: first, To: last, By: by, HasFrom: true, HasTo: true}
}

// plainNumbers walks a valid range step by step.
func plainNumbers(r impl.Range) []int {
	var list []int
	for x := r.Start; r.Step > 0 && x < r.Stop || r.Step < 0 && x > r.Stop; x += r.Step {
		list = append(list, x)
	}
	return list
}

// plainNormal returns the normal form of a progression that is written out.
func plainNormal(list []int) impl.Range {
	switch len(list) {
	case 0:
		return noRange
	case 1:
		return rng(list[0], list[0]+1, 1)
	}
	step, last := list[1]-list[0], list[len(list)-1]
	if step > 0 {
		return rng(list[0], last+1, step)
	}
	return rng(list[0], last-1, step)
}

// plainStart returns where a valid slice of n things begins.
func plainStart(n int, s impl.Slice) int {
	switch {
	case !s.HasFrom && s.By > 0:
		return 0
	case !s.HasFrom:
		return n - 1
	case s.From < 0:
		return s.From + n
	}
	return s.From
}

// plainStop returns the end of a valid slice of n things, which it does not reach.
func plainStop(n int, s impl.Slice) int {
	switch {
	case !s.HasTo && s.By > 0:
		return n
	case !s.HasTo:
		return -1
	case s.To < 0:
		return s.To + n
	}
	return s.To
}

// plainIndices returns the indices that a valid slice takes of n things.
func plainIndices(n int, s impl.Slice) []int {
	start, stop := plainStart(n, s), plainStop(n, s)
	if s.By > 0 {
		return plainNumbers(rng(max(start, 0), min(stop, n), s.By))
	}
	return plainNumbers(rng(min(start, n-1), max(stop, -1), s.By))
}

// chosen returns the elements of list at some indices, in order.
func chosen(list []int, indices []int) []int {
	var out []int
	for _, i := range indices {
		out = append(out, list[i])
	}
	return out
}

// backward returns list in reverse order.
func backward(list []int) []int {
	out := slices.Clone(list)
	slices.Reverse(out)
	return out
}

// firstNumbers returns the numbers 0 up to n-1.
func firstNumbers(n int) []int {
	return plainNumbers(rng(0, n, 1))
}

// rangesOf returns all ranges with some starts, stops and steps.
func rangesOf(starts []int, stops []int, steps []int) []impl.Range {
	var list []impl.Range
	for _, start := range starts {
		for _, stop := range stops {
			for _, step := range steps {
				list = append(list, rng(start, stop, step))
			}
		}
	}
	return list
}

// manyRanges returns valid ranges of all kinds, those at the limits included.
func manyRanges() []impl.Range {
	return rangesOf(
		[]int{-100, -99, -37, -8, -1, 0, 1, 5, 60, 99, 100},
		[]int{-101, -100, -38, -9, -1, 0, 1, 2, 6, 59, 61, 100, 101},
		[]int{-200, -199, -101, -60, -7, -3, -2, -1, 1, 2, 3, 5, 12, 100, 199, 200},
	)
}

// someRanges returns fewer valid ranges, for tests of pairs.
func someRanges() []impl.Range {
	return rangesOf(
		[]int{-100, -9, 0, 4, 7, 100},
		[]int{-101, -10, 0, 5, 8, 101},
		[]int{-200, -101, -6, -4, -3, -1, 1, 2, 5, 6, 9, 100, 200},
	)
}

// badRanges returns ranges that are not valid.
func badRanges() []impl.Range {
	return []impl.Range{
		{}, rng(0, 10, 0), rng(101, 0, -1), rng(-101, 0, 1), rng(0, 102, 1), rng(0, -102, -1),
		rng(0, 10, 201), rng(10, 0, -201), rng(math.MaxInt, 0, -1), rng(math.MinInt, 0, 1),
		rng(0, math.MaxInt, 1), rng(0, math.MinInt, -1), rng(0, 10, math.MaxInt), rng(10, 0, math.MinInt),
		rng(101, 101, 1), rng(-101, -101, -1),
	}
}

// manySlices returns valid slices with all choices of ends, those beyond all included.
func manySlices() []impl.Slice {
	ends := []int{-100, -61, -60, -7, -6, -5, -2, -1, 0, 1, 2, 4, 5, 6, 59, 60, 61, 100}
	var list []impl.Slice
	for _, by := range []int{-200, -60, -5, -2, -1, 1, 2, 3, 60, 200} {
		list = append(list, open(by))
		for _, first := range ends {
			list = append(list, from(first, by), to(first, by))
			for _, last := range ends {
				list = append(list, between(first, last, by))
			}
		}
	}
	return list
}

// someSlices returns fewer valid slices, for tests of pairs.
func someSlices() []impl.Slice {
	ends := []int{-100, -4, -1, 0, 2, 5, 100}
	var list []impl.Slice
	for _, by := range []int{-200, -3, -1, 1, 2, 200} {
		list = append(list, open(by))
		for _, first := range ends {
			list = append(list, from(first, by), to(first, by))
			for _, last := range ends {
				list = append(list, between(first, last, by))
			}
		}
	}
	return list
}

// badSlices returns slices that are not valid.
func badSlices() []impl.Slice {
	return []impl.Slice{
		{}, between(0, 5, 0), open(201), open(-201), open(math.MaxInt), open(math.MinInt),
		from(101, 1), from(-101, 1), to(101, 1), to(-101, -1),
		from(math.MaxInt, 1), from(math.MinInt, 1), to(math.MaxInt, -1), to(math.MinInt, -1),
		{From: 1, By: 1}, {From: -1, By: 1, HasTo: true}, {To: 1, By: 1}, {To: -1, By: -1, HasFrom: true},
	}
}

// manyCounts returns numbers of things that can be sliced.
func manyCounts() []int {
	return []int{0, 1, 2, 5, 6, 7, 59, 60}
}

// badCounts returns numbers of things that cannot be sliced.
func badCounts() []int {
	return []int{-1, -60, 61, 100, math.MaxInt, math.MinInt}
}
