package tests

import (
	"slices"
	"testing"

	"loop.example/strideviews/impl"
)

// slicedDim returns what SliceDim has to return: a view of the indices of v with some numbers in a dimension, which go by one step.
func slicedDim(v impl.View, d int, numbers []int) impl.View {
	if len(numbers) == 0 {
		return cleared(impl.View{Shape: with(v.Shape, d, 0)})
	}
	stride := 0
	if len(numbers) > 1 {
		stride = v.Strides[d] * (numbers[1] - numbers[0])
	}
	return cleared(impl.View{Base: v.Base + v.Strides[d]*numbers[0], Shape: with(v.Shape, d, len(numbers)), Strides: with(v.Strides, d, stride)})
}

func TestP33ViewsOfViewsAreViews(t *testing.T) {
	check := func(v impl.View, d int, s impl.Slice) {
		numbers := plainIndices(v.Shape[d], s)
		got, ok := impl.SliceDim(v, d, s)
		checkView(t, "SliceDim", v, got, ok, slicedDim(v, d, numbers))
		checkBack(t, "SliceDim", v, got, func(index []int) []int { return with(index, d, numbers[index[d]]) })
	}
	for _, v := range someViews() {
		for d := range v.Shape {
			for _, s := range fewSlices() {
				check(v, d, s)
			}
		}
	}
	for _, v := range []impl.View{vw(2, ints(7), 3), vw(59, ints(60), -1), vw(8, ints(1), 60), vw(60, ints(0), 5), vw(30, ints(6, 2), -5, 1), vw(10, ints(5, 0), 1, 1)} {
		for _, s := range manySlices() {
			check(v, 0, s)
		}
	}
}

func TestP34SlicesOfSlicesAreSlices(t *testing.T) {
	for _, v := range fewViews() {
		for d, extent := range v.Shape {
			for _, a := range fewSlices() {
				first, _ := impl.SliceDim(v, d, a)
				for _, b := range fewSlices() {
					twice, ok := impl.SliceDim(first, d, b)
					once, also := impl.SliceDim(v, d, impl.MergeSlices(extent, a, b))
					if !ok || !also || !sameViews(twice, once) {
						t.Fatalf("SliceDim of %v, %d by %v and %v = %v, %v, not %v, %v", v, d, a, b, twice, ok, once, also)
					}
					numbers := plainIndices(extent, a)
					if want := slicedDim(v, d, chosen(numbers, plainIndices(len(numbers), b))); !sameViews(once, want) {
						t.Fatalf("SliceDim of %v, %d by %v and %v = %v, not %v", v, d, a, b, once, want)
					}
				}
			}
		}
	}
}

func TestP35PickedNumbersLeaveAView(t *testing.T) {
	for _, v := range someViews() {
		for d, extent := range v.Shape {
			for i := -extent - 2; i < extent+2; i++ {
				got, ok := impl.PickDim(v, d, i)
				number := i
				if i < 0 {
					number += extent
				}
				if number < 0 || number >= extent {
					checkNone(t, "PickDim", v, got, ok)
					continue
				}
				want := impl.View{Base: v.Base + number*v.Strides[d], Shape: without(v.Shape, d), Strides: without(v.Strides, d)}
				checkView(t, "PickDim", v, got, ok, cleared(want))
				checkBack(t, "PickDim", v, got, func(index []int) []int { return inserted(index, d, number) })
			}
		}
	}
}

func TestP36DimensionsComeInAnyOrder(t *testing.T) {
	for _, v := range someViews() {
		for _, order := range manyOrders(len(v.Shape)) {
			got, ok := impl.PermuteDims(v, order)
			checkView(t, "PermuteDims", v, got, ok, impl.View{Base: v.Base, Shape: chosen(v.Shape, order), Strides: chosen(v.Strides, order)})
			orderBack := make([]int, len(order))
			for i, d := range order {
				orderBack[d] = i
			}
			checkBack(t, "PermuteDims", v, got, func(index []int) []int { return chosen(index, orderBack) })
			back, ok := impl.PermuteDims(got, orderBack)
			checkView(t, "PermuteDims back", got, back, ok, v)
		}
		for _, order := range badOrders(len(v.Shape)) {
			got, ok := impl.PermuteDims(v, order)
			checkNone(t, "PermuteDims", v, got, ok)
		}
	}
}

func TestP37FlippedTwiceIsAsBefore(t *testing.T) {
	for _, v := range manyViews() {
		for d, extent := range v.Shape {
			got, ok := impl.FlipDim(v, d)
			checkView(t, "FlipDim", v, got, ok, slicedDim(v, d, backward(firstNumbers(extent))))
			checkBack(t, "FlipDim", v, got, func(index []int) []int { return with(index, d, extent-1-index[d]) })
			if sliced, _ := impl.SliceDim(v, d, open(-1)); !sameViews(got, sliced) {
				t.Fatalf("FlipDim(%v, %d) = %v, but SliceDim = %v", v, d, got, sliced)
			}
			again, ok := impl.FlipDim(got, d)
			if !ok || !plainSame(again, v) || !impl.SameView(again, v) {
				t.Fatalf("FlipDim(%v, %d) again = %v, %v", v, d, again, ok)
			}
		}
	}
}

func TestP38NewDimensionsHoldOne(t *testing.T) {
	for _, v := range manyViews() {
		for at := 0; at <= len(v.Shape); at++ {
			got, ok := impl.AddDim(v, at)
			if len(v.Shape) == impl.MaxDims {
				checkNone(t, "AddDim", v, got, ok)
				continue
			}
			checkView(t, "AddDim", v, got, ok, impl.View{Base: v.Base, Shape: inserted(v.Shape, at, 1), Strides: inserted(v.Strides, at, 0)})
			if !slices.Equal(impl.OffsetsOf(got), plainCells(v)) {
				t.Fatalf("AddDim(%v, %d) = %v has other cells", v, at, got)
			}
			picked, ok := impl.PickDim(got, at, 0)
			checkView(t, "PickDim of AddDim", v, picked, ok, cleared(v))
			if !impl.SameView(picked, v) {
				t.Fatalf("PickDim of %v is not %v", got, v)
			}
		}
	}
}

func TestP39OnesDoNotMatter(t *testing.T) {
	dropped := 0
	for _, v := range manyViews() {
		got := impl.DropOnes(v)
		want := impl.View{Base: v.Base}
		for d, extent := range v.Shape {
			if extent != 1 {
				want.Shape = append(want.Shape, extent)
				want.Strides = append(want.Strides, v.Strides[d])
			}
		}
		checkView(t, "DropOnes", v, got, true, want)
		if slices.Contains(got.Shape, 1) || !slices.Equal(impl.OffsetsOf(got), plainCells(v)) {
			t.Fatalf("DropOnes(%v) = %v", v, got)
		}
		checkView(t, "DropOnes again", got, impl.DropOnes(got), true, got)
		dropped += len(v.Shape) - len(got.Shape)
	}
	if dropped == 0 {
		t.Fatal("no view has an extent of 1")
	}
}

func TestP40SpreadViewsRepeat(t *testing.T) {
	for _, v := range someViews() {
		for _, shape := range shapesTo(v.Shape) {
			got, ok := impl.SpreadTo(v, shape)
			want, possible := plainSpread(v, shape)
			if !possible {
				checkNone(t, "SpreadTo", v, got, ok)
				continue
			}
			checkView(t, "SpreadTo", v, got, ok, want)
			checkBack(t, "SpreadTo", v, got, func(index []int) []int {
				back := slices.Clone(index[len(shape)-len(v.Shape):])
				for d, extent := range v.Shape {
					if extent == 1 {
						back[d] = 0
					}
				}
				return back
			})
		}
	}
}

func TestP41BothAreSpreadToTheCommonShape(t *testing.T) {
	shapes := tuples(ints(0, 1, 2, 3, 5), 4)
	for dims := range 4 {
		shapes = append(shapes, tuples(ints(0, 1, 2, 3, 30, 60), dims)...)
	}
	shapes = slices.DeleteFunc(shapes, func(shape []int) bool { return !plainShape(shape) })
	possible := 0
	for _, a := range shapes {
		for _, b := range shapes {
			got, ok := impl.CommonShape(a, b)
			other, also := impl.CommonShape(b, a)
			want, can := plainCommon(a, b)
			if !can {
				want = nil
			}
			if ok != can || !slices.Equal(got, want) || also != ok || !slices.Equal(other, got) {
				t.Fatalf("CommonShape(%v, %v) = %v, %v, and the other way round %v, %v", a, b, got, ok, other, also)
			}
			if !can {
				continue
			}
			possible++
			v, ok := impl.SpreadTo(impl.NewView(a), got)
			w, also := impl.SpreadTo(impl.NewView(b), got)
			if !ok || !also || !slices.Equal(v.Shape, got) || !slices.Equal(w.Shape, got) {
				t.Fatalf("%v and %v are not spread to %v", a, b, got)
			}
		}
		if got, ok := impl.CommonShape(a, a); !ok || !slices.Equal(got, a) {
			t.Fatalf("CommonShape(%v, %v) = %v, %v", a, a, got, ok)
		}
	}
	if possible == 0 || possible == len(shapes)*len(shapes) {
		t.Fatalf("%d of %d pairs have a common shape", possible, len(shapes)*len(shapes))
	}
}

func TestP42DiagonalsHaveEqualNumbers(t *testing.T) {
	for _, v := range manyViews() {
		for a := range v.Shape {
			for b := range v.Shape {
				got, ok := impl.DiagonalOf(v, a, b)
				if a == b || v.Shape[a] != v.Shape[b] {
					checkNone(t, "DiagonalOf", v, got, ok)
					continue
				}
				strides := with(v.Strides, a, strideOf(v.Shape[a], v.Strides[a]+v.Strides[b]))
				checkView(t, "DiagonalOf", v, got, ok, cleared(impl.View{Base: v.Base, Shape: without(v.Shape, b), Strides: without(strides, b)}))
				var cells []int
				for _, index := range plainWalk(with(v.Shape, b, min(1, v.Shape[b]))) {
					cells = append(cells, plainCell(v, with(index, b, index[a])))
				}
				if !slices.Equal(impl.OffsetsOf(got), cells) {
					t.Fatalf("DiagonalOf(%v, %d, %d) has the cells %v, not %v", v, a, b, impl.OffsetsOf(got), cells)
				}
			}
		}
	}
}

func TestP43WindowsAreParts(t *testing.T) {
	for _, v := range someViews() {
		for d, extent := range v.Shape {
			// The last dimension of a window is the one that was sliced.
			order := append(without(firstNumbers(len(v.Shape)), d), d)
			for size := -1; size <= extent+2; size++ {
				got, ok := impl.WindowsOf(v, d, size)
				shape := append(with(v.Shape, d, extent-size+1), size)
				if size < 1 || size > extent || !plainShape(shape) {
					checkNone(t, "WindowsOf", v, got, ok)
					continue
				}
				checkView(t, "WindowsOf", v, got, ok, impl.View{Base: v.Base, Shape: shape, Strides: inserted(v.Strides, len(v.Strides), v.Strides[d])})
				for i := range extent - size + 1 {
					window, _ := impl.PickDim(got, d, i)
					sliced, _ := impl.SliceDim(v, d, between(i, i+size, 1))
					want, _ := impl.PermuteDims(sliced, order)
					if !plainSame(window, want) || !impl.SameView(window, want) {
						t.Fatalf("window %d of WindowsOf(%v, %d, %d) = %v, not %v", i, v, d, size, window, want)
					}
				}
			}
		}
	}
}

func TestP44ReshapedViewsHaveTheSameCells(t *testing.T) {
	possible, copies := 0, 0
	for _, v := range someViews() {
		cells := plainCells(v)
		for _, shape := range shapesByCount()[len(cells)] {
			got, ok := impl.Reshape(v, shape)
			want, can := plainReshape(v, shape)
			if !can {
				checkNone(t, "Reshape", v, got, ok)
				copies++
				continue
			}
			checkView(t, "Reshape", v, got, ok, want)
			if !slices.Equal(impl.OffsetsOf(got), cells) {
				t.Fatalf("Reshape(%v, %v) = %v has the cells %v", v, shape, got, impl.OffsetsOf(got))
			}
			back, ok := impl.Reshape(got, v.Shape)
			if !ok || !plainSame(back, v) || !impl.SameView(back, v) {
				t.Fatalf("Reshape(%v, %v) back = %v, %v", v, shape, back, ok)
			}
			possible++
		}
		for _, shape := range [][]int{{len(cells) + 1}, {len(cells), 2}, {0, 1}, {1, 61}} {
			if !plainShape(shape) || plainProduct(shape) != len(cells) {
				got, ok := impl.Reshape(v, shape)
				checkNone(t, "Reshape", v, got, ok)
			}
		}
	}
	if possible == 0 || copies == 0 {
		t.Fatalf("%d shapes are possible, and %d need a copy", possible, copies)
	}
}

func TestP45DenseViewsCanHaveAnyShape(t *testing.T) {
	for n, shapes := range shapesByCount() {
		for _, from := range someOf(shapes, 11) {
			v := impl.NewView(from)
			for _, base := range []int{0, impl.MaxCells - n} {
				v.Base = base
				if !impl.IsRow(v) {
					t.Fatalf("IsRow(%v) = false", v)
				}
				for _, shape := range shapes {
					got, ok := impl.Reshape(v, shape)
					if !ok || !slices.Equal(got.Shape, shape) || !impl.IsRow(got) || !slices.Equal(plainCells(got), plainCells(v)) {
						t.Fatalf("Reshape(%v, %v) = %v, %v", v, shape, got, ok)
					}
				}
			}
		}
	}
	// Not only new views are rows: strides of extents of 1 are any ones.
	for _, v := range someViews() {
		if cells := plainCells(v); impl.IsRow(v) {
			for _, shape := range shapesByCount()[len(cells)] {
				if got, ok := impl.Reshape(v, shape); !ok || !impl.IsRow(got) || !slices.Equal(plainCells(got), cells) {
					t.Fatalf("Reshape(%v, %v) = %v, %v", v, shape, got, ok)
				}
			}
		}
	}
}

func TestP46SplitDimensionsCanBeJoined(t *testing.T) {
	for _, v := range manyViews() {
		for d, extent := range v.Shape {
			for outer := -1; outer <= extent+2; outer++ {
				got, ok := impl.SplitDim(v, d, outer)
				if outer < 1 || extent%outer != 0 || len(v.Shape) == impl.MaxDims {
					checkNone(t, "SplitDim", v, got, ok)
					continue
				}
				inner := extent / outer
				want := impl.View{Base: v.Base, Shape: slices.Replace(slices.Clone(v.Shape), d, d+1, outer, inner), Strides: slices.Replace(slices.Clone(v.Strides), d, d+1, inner*v.Strides[d], v.Strides[d])}
				for e := range want.Shape {
					want.Strides[e] = strideOf(want.Shape[e], want.Strides[e])
				}
				checkView(t, "SplitDim", v, got, ok, cleared(want))
				checkBack(t, "SplitDim", v, got, func(index []int) []int {
					return slices.Replace(slices.Clone(index), d, d+2, index[d]*inner+index[d+1])
				})
				joined, ok := impl.JoinDims(got, d)
				if !ok || !plainSame(joined, v) || !impl.SameView(joined, v) {
					t.Fatalf("JoinDims of SplitDim(%v, %d, %d) = %v, %v", v, d, outer, joined, ok)
				}
			}
		}
	}
}

func TestP47JoinedDimensionsHaveTheSameCells(t *testing.T) {
	possible, copies := 0, 0
	for _, v := range manyViews() {
		for d := 0; d+1 < len(v.Shape); d++ {
			next := d + 1
			got, ok := impl.JoinDims(v, d)
			shape := slices.Replace(slices.Clone(v.Shape), d, next+1, v.Shape[d]*v.Shape[next])
			can := plainShape(shape)
			if plainProduct(v.Shape) > 0 && v.Shape[d] > 1 && v.Shape[next] > 1 {
				can = v.Strides[d] == v.Strides[next]*v.Shape[next]
			}
			if !can {
				checkNone(t, "JoinDims", v, got, ok)
				copies++
				continue
			}
			stride := v.Strides[next]
			if v.Shape[next] == 1 {
				stride = v.Strides[d]
			}
			want := impl.View{Base: v.Base, Shape: shape, Strides: slices.Replace(slices.Clone(v.Strides), d, next+1, stride)}
			for e := range shape {
				want.Strides[e] = strideOf(shape[e], want.Strides[e])
			}
			checkView(t, "JoinDims", v, got, ok, cleared(want))
			if !slices.Equal(impl.OffsetsOf(got), plainCells(v)) {
				t.Fatalf("JoinDims(%v, %d) = %v has other cells", v, d, got)
			}
			possible++
		}
	}
	if possible == 0 || copies == 0 {
		t.Fatalf("%d dimensions are joined, and %d need a copy", possible, copies)
	}
}

// TestP48SameViewsLoadTheSame holds SameView against a walk through the cells of both views.
func TestP48SameViewsLoadTheSame(t *testing.T) {
	list := append(someOf(someViews(), 5), vw(5, ints(1), 0), vw(0, ints(0), 0), vw(5, ints(2, 1, 3), 3, 0, 1), vw(0, ints(12), 1), vw(4, ints(3, 1, 3), 1, 60, 1), vw(4, ints(3, 1, 3), 1, 0, 1))
	same := 0
	for i, a := range list {
		for _, b := range list[i:] {
			want := plainSame(a, b)
			if impl.SameView(a, b) != want || impl.SameView(b, a) != want {
				t.Fatalf("SameView(%v, %v) = %v, and the other way round %v", a, b, impl.SameView(a, b), impl.SameView(b, a))
			}
			if !want {
				continue
			}
			same++
			low, high := impl.BoundsOf(a)
			if otherLow, otherHigh := impl.BoundsOf(b); low != otherLow || high != otherHigh || !slices.Equal(impl.RepeatsOf(a), impl.RepeatsOf(b)) {
				t.Fatalf("%v and %v are the same, but BoundsOf or RepeatsOf are not", a, b)
			}
		}
	}
	if same <= len(list) {
		t.Fatal("no views are the same but those that are equal")
	}
}
