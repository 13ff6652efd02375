package tests

import (
	"math"
	"slices"
	"testing"

	"loop.example/strideviews/impl"
)

func TestLimitsOfMemories(t *testing.T) {
	if impl.MaxValue != 255 || impl.WyForward != 0 || impl.WyBackward != 1 || impl.WyBuffer != 2 {
		t.Errorf("the limit is %d, and the ways are %d, %d and %d", impl.MaxValue, impl.WyForward, impl.WyBackward, impl.WyBuffer)
	}
}

func TestValidMemoryValues(t *testing.T) {
	for _, mem := range [][]int{nil, {}, {0}, {255}, {0, 255, 128}, make([]int, 60), slices.Repeat(ints(255), 60), make([]int, 59, 200)} {
		if !impl.ValidMemory(mem) {
			t.Errorf("%v is no memory", mem)
		}
	}
	for _, mem := range append(badMemories(), ints(0, 256), ints(-1, 0), ints(math.MaxInt), ints(math.MinInt)) {
		if impl.ValidMemory(mem) {
			t.Errorf("%v is a memory", mem)
		}
	}
}

// ten is a memory of ten cells with ten times their own numbers.
func ten() []int {
	return ints(0, 10, 20, 30, 40, 50, 60, 70, 80, 90)
}

func TestLoadAndSumValues(t *testing.T) {
	for _, c := range []struct {
		v    impl.View
		want []int
		sum  int
	}{
		{vw(0, ints(10), 1), ten(), 450}, {vw(9, ints(10), -1), backward(ten()), 450}, {vw(1, ints(3), 3), ints(10, 40, 70), 120}, {vw(7, ints(3), -3), ints(70, 40, 10), 120}, {vw(6, ints(4), 1), ints(60, 70, 80, 90), 300},
		// Rows that are dense, that are not, and that go down.
		{vw(1, ints(2, 3), 5, 1), ints(10, 20, 30, 60, 70, 80), 270}, {vw(1, ints(2, 3), 1, 3), ints(10, 40, 70, 20, 50, 80), 270}, {vw(3, ints(2, 3), 5, -1), ints(30, 20, 10, 80, 70, 60), 270}, {vw(6, ints(2, 3), -5, 1), ints(60, 70, 80, 10, 20, 30), 270}, {vw(0, ints(2, 2, 2), 4, 1, 2), ints(0, 20, 10, 30, 40, 60, 50, 70), 280}, {vw(0, ints(2, 1), 9, 1), ints(0, 90), 90}, {vw(9, ints(1, 1), 60, 1), ints(90), 90},
		// Cells that come again are loaded, and summed, each time.
		{vw(3, ints(4), 0), ints(30, 30, 30, 30), 120}, {vw(0, ints(3, 3), 1, 1), ints(0, 10, 20, 10, 20, 30, 20, 30, 40), 180}, {vw(1, ints(2, 2), 0, 1), ints(10, 20, 10, 20), 60},
		// One value, and none.
		{vw(0, nil), ints(0), 0}, {vw(9, nil), ints(90), 90}, {vw(5, ints(1), 60), ints(50), 50}, {vw(5, ints(0), 1), nil, 0}, {vw(60, ints(3, 0), 60, 1), nil, 0},
	} {
		if got := impl.LoadView(ten(), c.v); !slices.Equal(got, c.want) {
			t.Errorf("LoadView(%v, %v) = %v, not %v", ten(), c.v, got, c.want)
		}
		if got := impl.SumView(ten(), c.v); got != c.sum {
			t.Errorf("SumView(%v, %v) = %d, not %d", ten(), c.v, got, c.sum)
		}
	}
	full := slices.Repeat(ints(255), 60)
	if got := impl.LoadView(full, vw(59, ints(60), -1)); !slices.Equal(got, full) || impl.SumView(full, vw(0, ints(60), 0)) != 60*255 {
		t.Errorf("a full memory has the values %v, and the sum %d", got, impl.SumView(full, vw(0, ints(60), 0)))
	}
}

func TestStoreAndAddValues(t *testing.T) {
	for _, c := range []struct {
		mem           []int
		v             impl.View
		values        []int
		stored, added []int
	}{
		{ints(1, 2, 3, 4), vw(1, ints(2), 1), ints(7, 8), ints(1, 7, 8, 4), ints(1, 9, 11, 4)},
		{ints(1, 2, 3, 4), vw(3, ints(2), -3), ints(7, 8), ints(8, 2, 3, 7), ints(9, 2, 3, 11)},
		{ints(1, 2, 3, 4), vw(0, ints(2, 2), 1, 2), ints(5, 6, 7, 8), ints(5, 7, 6, 8), ints(6, 9, 9, 12)},
		{ints(1, 2, 3, 4), vw(2, ints(2, 2), -2, 1), ints(5, 6, 7, 8), ints(7, 8, 5, 6), ints(8, 10, 8, 10)},
		// The last value of a repeated cell stays, and all of them are added.
		{ints(1, 2, 3, 4), vw(1, ints(3), 0), ints(7, 8, 9), ints(1, 9, 3, 4), ints(1, 26, 3, 4)},
		{ints(1, 2, 3, 4), vw(0, ints(2, 3), 1, 1), ints(5, 6, 7, 8, 9, 10), ints(5, 8, 9, 10), ints(6, 16, 19, 14)},
		{ints(1, 2, 3, 4), vw(1, ints(2, 3), -1, 1), ints(5, 6, 7, 8, 9, 10), ints(8, 9, 10, 7), ints(9, 16, 19, 11)},
		{ints(1, 2, 3, 4), vw(3, ints(2, 3), 0, -1), ints(5, 6, 7, 8, 9, 10), ints(1, 10, 9, 8), ints(1, 19, 18, 17)},
		// Sums at 256 and beyond.
		{ints(0, 1, 254, 255), vw(0, ints(4), 1), ints(255, 255, 1, 255), ints(255, 255, 1, 255), ints(255, 0, 255, 254)},
		{ints(255), vw(0, ints(60), 0), slices.Repeat(ints(255), 60), ints(255), ints(61 * 255 % 256)},
		{ints(128), vw(0, ints(2), 0), ints(128, 0), ints(0), ints(0)},
		// One value, and none.
		{ints(1, 2), vw(1, nil), ints(255), ints(1, 255), ints(1, 1)}, {ints(1, 2), vw(1, ints(1, 1), 60, 1), ints(9), ints(1, 9), ints(1, 11)}, {ints(1, 2), vw(60, ints(0), 1), nil, ints(1, 2), ints(1, 2)}, {nil, vw(60, ints(3, 0), 1, 1), ints(), nil, nil}, {nil, vw(0, ints(0), 0), nil, nil, nil},
	} {
		if got, ok := impl.StoreView(c.mem, c.v, c.values); !ok || !slices.Equal(got, c.stored) {
			t.Errorf("StoreView(%v, %v, %v) = %v, %v, not %v", c.mem, c.v, c.values, got, ok, c.stored)
		}
		if got, ok := impl.AddView(c.mem, c.v, c.values); !ok || !slices.Equal(got, c.added) {
			t.Errorf("AddView(%v, %v, %v) = %v, %v, not %v", c.mem, c.v, c.values, got, ok, c.added)
		}
	}
}

func TestFillViewValues(t *testing.T) {
	for _, c := range []struct {
		v     impl.View
		value int
		want  []int
	}{
		{vw(1, ints(3), 3), 9, ints(0, 9, 20, 30, 9, 50, 60, 9, 80, 90)}, {vw(9, ints(10), -1), 255, slices.Repeat(ints(255), 10)}, {vw(0, ints(10), 1), 0, make([]int, 10)}, {vw(0, ints(2, 2), 8, 1), 1, ints(1, 1, 20, 30, 40, 50, 60, 70, 1, 1)}, {vw(4, ints(2, 2), 1, 1), 1, ints(0, 10, 20, 30, 1, 1, 1, 70, 80, 90)}, {vw(5, ints(60), 0), 1, ints(0, 10, 20, 30, 40, 1, 60, 70, 80, 90)}, {vw(9, nil), 1, ints(0, 10, 20, 30, 40, 50, 60, 70, 80, 1)}, {vw(60, ints(0), 1), 1, ten()},
	} {
		if got, ok := impl.FillView(ten(), c.v, c.value); !ok || !slices.Equal(got, c.want) {
			t.Errorf("FillView(%v, %v, %d) = %v, %v, not %v", ten(), c.v, c.value, got, ok, c.want)
		}
	}
	for _, value := range []int{-1, 256, -256, math.MaxInt, math.MinInt} {
		for _, v := range []impl.View{vw(0, ints(3), 1), vw(0, nil), vw(0, ints(0), 1)} {
			got, ok := impl.FillView(ten(), v, value)
			checkNoMemory(t, got, ok, "FillView", v)
		}
	}
}

// TestCopyValues checks copies as if all was loaded first, those from the first index on, and those from the last one on.
func TestCopyValues(t *testing.T) {
	for _, c := range []struct {
		to, from                     impl.View
		way                          int
		whole, forwardly, backwardly []int
	}{
		// Down, up, and as far up as the view is long.
		{vw(0, ints(4), 1), vw(1, ints(4), 1), 0, ints(1, 2, 3, 4, 4, 5), ints(1, 2, 3, 4, 4, 5), ints(4, 4, 4, 4, 4, 5)},
		{vw(1, ints(4), 1), vw(0, ints(4), 1), 1, ints(0, 0, 1, 2, 3, 5), ints(0, 0, 0, 0, 0, 5), ints(0, 0, 1, 2, 3, 5)},
		{vw(2, ints(3), 1), vw(0, ints(3), 1), 1, ints(0, 1, 0, 1, 2, 5), ints(0, 1, 0, 1, 0, 5), ints(0, 1, 0, 1, 2, 5)},
		{vw(3, ints(3), 1), vw(0, ints(3), 1), 0, ints(0, 1, 2, 0, 1, 2), ints(0, 1, 2, 0, 1, 2), ints(0, 1, 2, 0, 1, 2)},
		// The same, with both lines downwards.
		{vw(4, ints(4), -1), vw(3, ints(4), -1), 0, ints(0, 0, 1, 2, 3, 5), ints(0, 0, 1, 2, 3, 5), ints(0, 0, 0, 0, 0, 5)},
		{vw(3, ints(4), -1), vw(4, ints(4), -1), 1, ints(1, 2, 3, 4, 4, 5), ints(4, 4, 4, 4, 4, 5), ints(1, 2, 3, 4, 4, 5)},
		// Steps of 2, and lines with different strides.
		{vw(2, ints(2), 2), vw(0, ints(2), 2), 1, ints(0, 1, 0, 3, 2, 5), ints(0, 1, 0, 3, 0, 5), ints(0, 1, 0, 3, 2, 5)},
		{vw(1, ints(2), 2), vw(0, ints(2), 2), 0, ints(0, 0, 2, 2, 4, 5), ints(0, 0, 2, 2, 4, 5), ints(0, 0, 2, 2, 4, 5)},
		{vw(0, ints(3), 1), vw(0, ints(3), 2), 0, ints(0, 2, 4, 3, 4, 5), ints(0, 2, 4, 3, 4, 5), ints(0, 4, 4, 3, 4, 5)},
		{vw(0, ints(3), 2), vw(0, ints(3), 1), 1, ints(0, 1, 1, 3, 2, 5), ints(0, 1, 1, 3, 1, 5), ints(0, 1, 1, 3, 2, 5)},
		{vw(0, ints(3), 2), vw(2, ints(3), 1), 0, ints(2, 1, 3, 3, 4, 5), ints(2, 1, 3, 3, 4, 5), ints(3, 1, 3, 3, 4, 5)},
		// Flipped views.
		{vw(3, ints(4), -1), vw(0, ints(4), 1), 2, ints(3, 2, 1, 0, 4, 5), ints(0, 1, 1, 0, 4, 5), ints(3, 2, 2, 3, 4, 5)},
		{vw(0, ints(2), 1), vw(1, ints(2), -1), 2, ints(1, 0, 2, 3, 4, 5), ints(1, 1, 2, 3, 4, 5), ints(0, 0, 2, 3, 4, 5)},
		{vw(5, ints(3), -1), vw(2, ints(3), 1), 2, ints(0, 1, 2, 4, 3, 2), ints(0, 1, 2, 3, 3, 2), ints(0, 1, 2, 4, 4, 2)},
		{vw(2, ints(3), -1), vw(2, ints(3), 1), 0, ints(4, 3, 2, 3, 4, 5), ints(4, 3, 2, 3, 4, 5), ints(4, 3, 2, 3, 4, 5)},
		{vw(2, ints(3), 1), vw(2, ints(3), -1), 0, ints(0, 1, 2, 1, 0, 5), ints(0, 1, 2, 1, 0, 5), ints(0, 1, 2, 1, 0, 5)},
		{vw(1, ints(3), 1), vw(2, ints(3), -1), 2, ints(0, 2, 1, 0, 4, 5), ints(0, 2, 2, 0, 4, 5), ints(0, 1, 1, 0, 4, 5)},
		// To repeated cells a copy is forward or not at all one by one.
		{vw(0, ints(3), 0), vw(1, ints(3), 1), 0, ints(3, 1, 2, 3, 4, 5), ints(3, 1, 2, 3, 4, 5), ints(1, 1, 2, 3, 4, 5)},
		{vw(0, ints(3), 0), vw(0, ints(3), 1), 0, ints(2, 1, 2, 3, 4, 5), ints(2, 1, 2, 3, 4, 5), ints(1, 1, 2, 3, 4, 5)},
		{vw(2, ints(3), 0), vw(0, ints(3), 1), 2, ints(0, 1, 2, 3, 4, 5), ints(0, 1, 1, 3, 4, 5), ints(0, 1, 0, 3, 4, 5)},
		{vw(1, ints(2, 2), 0, 1), vw(0, ints(2, 2), 2, 1), 2, ints(0, 2, 3, 3, 4, 5), ints(0, 0, 3, 3, 4, 5), ints(0, 0, 3, 3, 4, 5)},
		// From repeated cells it may be backward.
		{vw(0, ints(3), 1), vw(0, ints(3), 0), 1, ints(0, 0, 0, 3, 4, 5), ints(0, 0, 0, 3, 4, 5), ints(0, 0, 0, 3, 4, 5)},
		{vw(0, ints(3), 1), vw(2, ints(3), 0), 0, ints(2, 2, 2, 3, 4, 5), ints(2, 2, 2, 3, 4, 5), ints(2, 2, 2, 3, 4, 5)},
		{vw(0, ints(3), 1), vw(1, ints(3), 0), 2, ints(1, 1, 1, 3, 4, 5), ints(1, 1, 1, 3, 4, 5), ints(1, 1, 1, 3, 4, 5)},
		// Views of two dimensions, a matrix turned within itself among them.
		{vw(0, ints(2, 2), 2, 1), vw(0, ints(2, 2), 1, 2), 2, ints(0, 2, 1, 3, 4, 5), ints(0, 2, 2, 3, 4, 5), ints(0, 1, 1, 3, 4, 5)},
		{vw(1, ints(2, 2), 2, 1), vw(0, ints(2, 2), 2, 1), 1, ints(0, 0, 1, 2, 3, 5), ints(0, 0, 0, 0, 0, 5), ints(0, 0, 1, 2, 3, 5)},
		{vw(0, ints(2, 2), 2, 1), vw(2, ints(2, 2), 2, 1), 0, ints(2, 3, 4, 5, 4, 5), ints(2, 3, 4, 5, 4, 5), ints(4, 5, 4, 5, 4, 5)},
		{vw(2, ints(2, 2), -2, 1), vw(0, ints(2, 2), 2, 1), 2, ints(2, 3, 0, 1, 4, 5), ints(0, 1, 0, 1, 4, 5), ints(2, 3, 2, 3, 4, 5)},
		// A view to itself, with and without repeated cells.
		{vw(0, ints(6), 1), vw(0, ints(6), 1), 0, firstNumbers(6), firstNumbers(6), firstNumbers(6)},
		{vw(5, ints(2, 3), -3, -1), vw(5, ints(2, 3), -3, -1), 0, firstNumbers(6), firstNumbers(6), firstNumbers(6)},
		{vw(2, ints(2), 0), vw(2, ints(2), 0), 2, firstNumbers(6), firstNumbers(6), firstNumbers(6)},
		{vw(0, ints(2, 2), 1, 1), vw(0, ints(2, 2), 1, 1), 2, firstNumbers(6), firstNumbers(6), firstNumbers(6)},
		{vw(2, ints(1), 0), vw(2, ints(1), 60), 0, firstNumbers(6), firstNumbers(6), firstNumbers(6)},
		// One cell, and none.
		{vw(5, nil), vw(1, nil), 0, ints(0, 1, 2, 3, 4, 1), ints(0, 1, 2, 3, 4, 1), ints(0, 1, 2, 3, 4, 1)},
		{vw(1, nil), vw(1, nil), 0, firstNumbers(6), firstNumbers(6), firstNumbers(6)},
		{vw(60, ints(0), 1), vw(0, ints(0), -60), 0, firstNumbers(6), firstNumbers(6), firstNumbers(6)},
		{vw(60, ints(3, 0), 1, 1), vw(60, ints(3, 0), 1, 1), 0, firstNumbers(6), firstNumbers(6), firstNumbers(6)},
	} {
		if got := impl.WayOf(c.to, c.from); got != c.way {
			t.Errorf("WayOf(%v, %v) = %d, not %d", c.to, c.from, got, c.way)
		}
		if got, ok := impl.CopyView(firstNumbers(6), c.to, c.from); !ok || !slices.Equal(got, c.whole) {
			t.Errorf("CopyView(%v, %v) = %v, %v, not %v", c.to, c.from, got, ok, c.whole)
		}
		if got, ok := impl.CopyForward(firstNumbers(6), c.to, c.from); !ok || !slices.Equal(got, c.forwardly) {
			t.Errorf("CopyForward(%v, %v) = %v, %v, not %v", c.to, c.from, got, ok, c.forwardly)
		}
		if got, ok := impl.CopyBackward(firstNumbers(6), c.to, c.from); !ok || !slices.Equal(got, c.backwardly) {
			t.Errorf("CopyBackward(%v, %v) = %v, %v, not %v", c.to, c.from, got, ok, c.backwardly)
		}
	}
}

func TestSwapViewsValues(t *testing.T) {
	for _, c := range []struct {
		a, b impl.View
		want []int
	}{
		{vw(0, ints(2), 1), vw(5, ints(2), 2), ints(50, 70, 20, 30, 40, 0, 60, 10, 80, 90)},
		{vw(0, ints(5), 1), vw(5, ints(5), 1), ints(50, 60, 70, 80, 90, 0, 10, 20, 30, 40)},
		{vw(0, ints(5), 1), vw(9, ints(5), -1), backward(ten())},
		{vw(0, ints(5), 2), vw(1, ints(5), 2), ints(10, 0, 30, 20, 50, 40, 70, 60, 90, 80)},
		{vw(0, ints(2, 2), 2, 1), vw(4, ints(2, 2), 1, 2), ints(40, 60, 50, 70, 0, 20, 10, 30, 80, 90)},
		{vw(0, nil), vw(9, nil), ints(90, 10, 20, 30, 40, 50, 60, 70, 80, 0)}, {vw(0, ints(1), 60), vw(9, ints(1), 0), ints(90, 10, 20, 30, 40, 50, 60, 70, 80, 0)},
		// Views without cells have none in common, not even with themselves.
		{vw(60, ints(0), 1), vw(0, ints(0), 0), ten()}, {vw(60, ints(0), 1), vw(60, ints(0), 1), ten()},
	} {
		for _, p := range [][2]impl.View{{c.a, c.b}, {c.b, c.a}} {
			if got, ok := impl.SwapViews(ten(), p[0], p[1]); !ok || !slices.Equal(got, c.want) {
				t.Errorf("SwapViews(%v, %v, %v) = %v, %v, not %v", ten(), p[0], p[1], got, ok, c.want)
			}
		}
	}
	for _, c := range [][2]impl.View{
		// A cell in common, that of the views' ends, those in between, or all of them.
		{vw(0, ints(2), 1), vw(1, ints(2), 1)}, {vw(0, ints(3), 2), vw(4, ints(3), 1)}, {vw(0, ints(3), 3), vw(1, ints(3), 2)}, {vw(0, ints(4), 1), vw(0, ints(4), 1)}, {vw(0, ints(4), 1), vw(3, ints(4), -1)}, {vw(3, nil), vw(3, nil)},
		// Repeated cells in one of them, or in both, also such that both have equal values everywhere.
		{vw(0, ints(2), 0), vw(5, ints(2), 1)}, {vw(0, ints(2), 0), vw(5, ints(2), 0)}, {vw(0, ints(2, 2), 1, 1), vw(5, ints(2, 2), 2, 1)}, {vw(0, ints(2, 2), 1, 1), vw(5, ints(2, 2), 1, 1)},
	} {
		for _, p := range [][2]impl.View{{c[0], c[1]}, {c[1], c[0]}} {
			got, ok := impl.SwapViews(ten(), p[0], p[1])
			checkNoMemory(t, got, ok, "SwapViews", p[0], p[1])
		}
	}
}

func TestChangedByValues(t *testing.T) {
	for _, c := range []struct {
		a, b, want []int
	}{
		{ints(1, 2, 3), ints(1, 2, 3), nil}, {ints(1, 2, 3), ints(3, 2, 1), ints(0, 2)}, {ints(0), ints(255), ints(0)}, {make([]int, 60), slices.Repeat(ints(255), 60), firstNumbers(60)}, {make([]int, 60), with(make([]int, 60), 59, 1), ints(59)}, {nil, nil, nil}, {nil, ints(), nil},
		// Memories with another number of cells, and lists that are none.
		{ints(1, 2, 3), ints(3, 2), nil}, {ints(1), nil, nil}, {ints(1), make([]int, 60), nil}, {ints(1, 2), ints(1, 256), nil}, {ints(1, 2), ints(2, -1), nil}, {make([]int, 61), slices.Repeat(ints(1), 61), nil}, {ints(-1), ints(256), nil},
	} {
		if got, other := impl.ChangedBy(c.a, c.b), impl.ChangedBy(c.b, c.a); !slices.Equal(got, c.want) || !slices.Equal(other, c.want) {
			t.Errorf("ChangedBy(%v, %v) = %v, and the other way round %v, not %v", c.a, c.b, got, other, c.want)
		}
	}
	for _, bad := range badMemories() {
		for _, mem := range [][]int{make([]int, len(bad)), bad, nil} {
			if got, other := impl.ChangedBy(bad, mem), impl.ChangedBy(mem, bad); len(got) != 0 || len(other) != 0 {
				t.Errorf("ChangedBy(%v, %v) = %v, and the other way round %v", bad, mem, got, other)
			}
		}
	}
}

// checkFails checks the fixed results of all functions that change a memory, or load it, with a view, for values as many as it would have.
func checkFails(t *testing.T, mem []int, v impl.View, other impl.View, values []int) {
	t.Helper()
	for _, p := range [][2]impl.View{{v, other}, {other, v}, {v, v}} {
		got, ok := impl.CopyView(mem, p[0], p[1])
		checkNoMemory(t, got, ok, "CopyView", p[0], p[1])
		got, ok = impl.CopyForward(mem, p[0], p[1])
		checkNoMemory(t, got, ok, "CopyForward", p[0], p[1])
		got, ok = impl.CopyBackward(mem, p[0], p[1])
		checkNoMemory(t, got, ok, "CopyBackward", p[0], p[1])
		got, ok = impl.SwapViews(mem, p[0], p[1])
		checkNoMemory(t, got, ok, "SwapViews", p[0], p[1])
	}
	got, ok := impl.StoreView(mem, v, values)
	checkNoMemory(t, got, ok, "StoreView", v)
	got, ok = impl.AddView(mem, v, values)
	checkNoMemory(t, got, ok, "AddView", v)
	got, ok = impl.FillView(mem, v, 1)
	checkNoMemory(t, got, ok, "FillView", v)
	if got, sum := impl.LoadView(mem, v), impl.SumView(mem, v); len(got) != 0 || sum != -1 {
		t.Fatalf("%v of %v: LoadView = %v, SumView = %d", v, mem, got, sum)
	}
}

func TestMemoriesThatAreNotValid(t *testing.T) {
	for _, mem := range badMemories() {
		for _, v := range []impl.View{vw(0, nil), vw(0, ints(1), 1), vw(0, ints(0), 1), vw(60, ints(2, 0), 1, 1)} {
			checkFails(t, mem, v, v, make([]int, plainProduct(v.Shape)))
		}
	}
}

// TestViewsThatAreNotValid checks views that are not valid beside others, some of which have an equal shape.
func TestViewsThatAreNotValid(t *testing.T) {
	for _, mem := range [][]int{nil, ints(7), ownValues(60)} {
		for _, bad := range badViews() {
			values := make([]int, 1)
			if plainShape(bad.Shape) {
				values = make([]int, plainProduct(bad.Shape))
			}
			for _, v := range []impl.View{{Shape: bad.Shape, Strides: make([]int, len(bad.Shape))}, vw(0, ints(0), 1), vw(0, nil)} {
				checkFails(t, mem, bad, v, values)
				checkFails(t, mem, bad, v, nil)
				if one, other := impl.WayOf(bad, v), impl.WayOf(v, bad); one != -1 || other != -1 {
					t.Errorf("WayOf(%v, %v) = %d, and the other way round %d", bad, v, one, other)
				}
			}
			if way := impl.WayOf(bad, bad); way != -1 {
				t.Errorf("WayOf(%v, %v) = %d", bad, bad, way)
			}
		}
	}
}

// TestViewsThatDoNotFit checks memories that lack cells of a view, beside a view with an equal shape that may fit.
func TestViewsThatDoNotFit(t *testing.T) {
	for _, v := range memoryViews() {
		least := sizesFor(v)[0]
		values := make([]int, plainProduct(v.Shape))
		other := vw(0, v.Shape, make([]int, len(v.Shape))...)
		for _, n := range []int{least - 1, least / 2, 0} {
			if n >= 0 && n < least {
				checkFails(t, ownValues(n), v, other, values)
			}
		}
	}
}

func TestValuesThatDoNotFit(t *testing.T) {
	for mem, v := range fitting(edgeViews()) {
		for _, values := range badValues(plainProduct(v.Shape)) {
			got, ok := impl.StoreView(mem, v, values)
			checkNoMemory(t, got, ok, "StoreView", v)
			got, ok = impl.AddView(mem, v, values)
			checkNoMemory(t, got, ok, "AddView", v)
		}
	}
}

// TestShapesThatAreNotEqual checks pairs of views with different shapes, also where both have as many indices, or the same cells.
func TestShapesThatAreNotEqual(t *testing.T) {
	mem := ownValues(60)
	for a, b := range pairsOf([]impl.View{
		vw(0, ints(6), 1), vw(0, ints(2, 3), 3, 1), vw(10, ints(3, 2), 2, 1), vw(20, ints(1, 6), 0, 1), vw(30, ints(6, 1), 1, 0), vw(40, ints(2, 3, 1), 3, 1, 1), vw(0, ints(5), 1), vw(50, ints(7), 1), vw(0, nil), vw(9, ints(1), 1), vw(9, ints(1, 1), 1, 1), vw(0, ints(0), 1), vw(0, ints(0, 0), 1, 1), vw(0, ints(0, 3), 1, 1), vw(0, ints(3, 0), 1, 1),
	}) {
		if slices.Equal(a.Shape, b.Shape) {
			continue
		}
		got, ok := impl.CopyView(mem, a, b)
		checkNoMemory(t, got, ok, "CopyView", a, b)
		got, ok = impl.CopyForward(mem, a, b)
		checkNoMemory(t, got, ok, "CopyForward", a, b)
		got, ok = impl.CopyBackward(mem, a, b)
		checkNoMemory(t, got, ok, "CopyBackward", a, b)
		got, ok = impl.SwapViews(mem, a, b)
		checkNoMemory(t, got, ok, "SwapViews", a, b)
		if way := impl.WayOf(a, b); way != -1 {
			t.Errorf("WayOf(%v, %v) = %d", a, b, way)
		}
	}
}

// TestMemoriesAreFreshAndKept checks that no two results share memory, that no argument is changed, neither within its length nor behind it, and that results are the same each time.
func TestMemoriesAreFreshAndKept(t *testing.T) {
	room := append(ten(), 77, 77, 77)
	mem := room[:10]
	left := append(ints(1, 2, 3, 4), 77, 77)
	values := left[:4]
	a, b, back := vw(0, ints(2, 2), 2, 1), vw(5, ints(2, 2), 2, 1), vw(9, ints(2, 2), -3, -1)
	call := func() [][]int {
		list := [][]int{impl.LoadView(mem, a), impl.LoadView(mem, vw(0, ints(10), 1)), impl.ChangedBy(mem, slices.Repeat(ints(10), 10))}
		for _, v := range []impl.View{a, back, vw(60, ints(2, 0), 1, 1)} {
			taken := values[:plainProduct(v.Shape)]
			stored, _ := impl.StoreView(mem, v, taken)
			added, _ := impl.AddView(mem, v, taken)
			filled, _ := impl.FillView(mem, v, 9)
			list = append(list, stored, added, filled)
		}
		for _, p := range [][2]impl.View{{a, b}, {b, a}, {a, a}, {a, back}, {vw(60, ints(0), 1), vw(0, ints(0), 1)}} {
			whole, _ := impl.CopyView(mem, p[0], p[1])
			forwardly, _ := impl.CopyForward(mem, p[0], p[1])
			backwardly, _ := impl.CopyBackward(mem, p[0], p[1])
			list = append(list, whole, forwardly, backwardly)
		}
		swapped, _ := impl.SwapViews(mem, a, b)
		none, _ := impl.SwapViews(mem, vw(60, ints(0), 1), vw(0, ints(0), 1))
		return append(list, swapped, none)
	}
	before := call()
	for i, got := range call() {
		if len(got) < 4 || !slices.Equal(got, before[i]) {
			t.Fatalf("result %d is %v, and was %v", i, got, before[i])
		}
		for k := range got {
			got[k] = 44
		}
		_ = append(got, 55)
	}
	for i, got := range call() {
		if !slices.Equal(got, before[i]) {
			t.Fatalf("result %d is %v, and was %v", i, got, before[i])
		}
	}
	if !slices.Equal(room, append(ten(), 77, 77, 77)) || !slices.Equal(left, ints(1, 2, 3, 4, 77, 77)) {
		t.Errorf("an argument was changed: %v, %v", room, left)
	}
	if !sameViews(a, vw(0, ints(2, 2), 2, 1)) || !sameViews(b, vw(5, ints(2, 2), 2, 1)) || !sameViews(back, vw(9, ints(2, 2), -3, -1)) {
		t.Errorf("a view was changed: %v, %v, %v", a, b, back)
	}
}
