package tests

import (
	"math"
	"slices"
	"testing"

	"loop.example/strideviews/impl"
)

func TestLimitsOfRanges(t *testing.T) {
	if impl.MaxBound != 100 || impl.MaxStep != 200 || impl.MaxCells != 60 || impl.MaxWays != 6 {
		t.Errorf("limits are %d, %d, %d, %d", impl.MaxBound, impl.MaxStep, impl.MaxCells, impl.MaxWays)
	}
}

func TestValidRange(t *testing.T) {
	for _, r := range append(manyRanges(), rng(100, 101, 200), rng(-100, -101, -200), rng(100, -101, 1), rng(-100, 101, -1)) {
		if !impl.ValidRange(r) {
			t.Errorf("ValidRange(%v) = false", r)
		}
	}
	for _, r := range badRanges() {
		if impl.ValidRange(r) {
			t.Errorf("ValidRange(%v) = true", r)
		}
	}
}

// TestBadRanges checks the fixed results for ranges that are not valid.
func TestBadRanges(t *testing.T) {
	good, whole := rng(0, 10, 3), open(1)
	for _, r := range badRanges() {
		if impl.LenOf(r) != -1 || len(impl.NumbersOf(r)) != 0 || impl.PlaceOf(r, 0) != -1 || impl.PlaceOf(r, r.Start) != -1 {
			t.Errorf("%v: LenOf = %d, NumbersOf = %v, PlaceOf = %d", r, impl.LenOf(r), impl.NumbersOf(r), impl.PlaceOf(r, 0))
		}
		for _, i := range []int{0, -1, math.MaxInt, math.MinInt} {
			if x, ok := impl.NumberAt(r, i); x != 0 || ok {
				t.Errorf("NumberAt(%v, %d) = %d, %v", r, i, x, ok)
			}
		}
		for _, got := range []impl.Range{impl.NormalRange(r), impl.ReverseRange(r), impl.SliceRange(r, whole), impl.MeetRanges(r, good), impl.MeetRanges(good, r), impl.MeetRanges(r, r)} {
			if got != (impl.Range{}) {
				t.Errorf("%v: got %v, not the zero value", r, got)
			}
		}
		if impl.CoversRange(r, good) || impl.CoversRange(good, r) || impl.CoversRange(r, noRange) || impl.CoversRange(r, r) {
			t.Errorf("CoversRange of %v holds", r)
		}
		if impl.SumOf(r) != 0 || len(impl.DealRange(r, 2)) != 0 {
			t.Errorf("%v: SumOf = %d, DealRange = %v", r, impl.SumOf(r), impl.DealRange(r, 2))
		}
	}
}

func TestNumbersOfValues(t *testing.T) {
	for _, c := range []struct {
		r    impl.Range
		want []int
	}{
		{rng(0, 10, 3), []int{0, 3, 6, 9}},
		{rng(0, 9, 3), []int{0, 3, 6}},
		{rng(10, 0, -4), []int{10, 6, 2}},
		{rng(10, 2, -4), []int{10, 6}},
		{rng(-3, 4, 3), []int{-3, 0, 3}},
		{rng(3, -4, -3), []int{3, 0, -3}},
		{rng(5, 5, 2), nil},
		{rng(5, 5, -2), nil},
		{rng(5, 6, 200), []int{5}},
		{rng(5, 4, -200), []int{5}},
		{rng(5, 4, 1), nil},
		{rng(5, 6, -1), nil},
		{rng(100, 101, 1), []int{100}},
		{rng(-100, 101, 200), []int{-100, 100}},
		{rng(100, -101, -200), []int{100, -100}},
		{rng(-100, 100, 200), []int{-100}},
		{noRange, nil},
	} {
		if got := impl.NumbersOf(c.r); !slices.Equal(got, c.want) {
			t.Errorf("NumbersOf(%v) = %v, not %v", c.r, got, c.want)
		}
		if got := impl.LenOf(c.r); got != len(c.want) {
			t.Errorf("LenOf(%v) = %d, not %d", c.r, got, len(c.want))
		}
	}
	if got := impl.LenOf(rng(-100, 101, 1)); got != 201 {
		t.Errorf("LenOf of all numbers = %d", got)
	}
}

func TestNumberAtValues(t *testing.T) {
	for _, c := range []struct {
		r       impl.Range
		i, want int
		ok      bool
	}{
		{rng(0, 10, 3), 0, 0, true}, {rng(0, 10, 3), 3, 9, true}, {rng(0, 10, 3), 4, 0, false},
		{rng(0, 10, 3), -1, 9, true}, {rng(0, 10, 3), -4, 0, true}, {rng(0, 10, 3), -5, 0, false},
		{rng(10, 0, -4), 0, 10, true}, {rng(10, 0, -4), 2, 2, true}, {rng(10, 0, -4), -1, 2, true},
		{rng(10, 0, -4), -3, 10, true}, {rng(10, 0, -4), -4, 0, false}, {rng(10, 0, -4), 3, 0, false},
		{rng(7, 8, 5), 0, 7, true}, {rng(7, 8, 5), -1, 7, true}, {rng(7, 8, 5), 1, 0, false}, {rng(7, 8, 5), -2, 0, false},
		{rng(7, 7, 5), 0, 0, false}, {rng(7, 7, 5), -1, 0, false}, {rng(7, 0, 5), 0, 0, false},
		{rng(0, 10, 3), math.MaxInt, 0, false}, {rng(0, 10, 3), math.MinInt, 0, false},
		{rng(10, 0, -4), math.MaxInt, 0, false}, {rng(10, 0, -4), math.MinInt, 0, false},
	} {
		if x, ok := impl.NumberAt(c.r, c.i); x != c.want || ok != c.ok {
			t.Errorf("NumberAt(%v, %d) = %d, %v", c.r, c.i, x, ok)
		}
	}
}

func TestPlaceOfValues(t *testing.T) {
	for _, c := range []struct {
		r       impl.Range
		x, want int
	}{
		{rng(0, 10, 3), 0, 0}, {rng(0, 10, 3), 6, 2}, {rng(0, 10, 3), 7, -1}, {rng(0, 10, 3), 12, -1}, {rng(0, 10, 3), -3, -1},
		{rng(10, 0, -4), 10, 0}, {rng(10, 0, -4), 2, 2}, {rng(10, 0, -4), -2, -1}, {rng(10, 0, -4), 14, -1}, {rng(10, 0, -4), 4, -1},
		{rng(7, 8, 5), 7, 0}, {rng(7, 8, 5), 12, -1}, {rng(7, 7, 5), 7, -1}, {noRange, 0, -1},
		{rng(-100, 101, 200), 100, 1}, {rng(-100, 101, 1), 101, -1}, {rng(100, -101, -1), -101, -1},
		{rng(0, 101, 1), math.MaxInt, -1}, {rng(0, 101, 1), math.MinInt, -1},
		{rng(100, 101, 1), math.MinInt, -1}, {rng(-100, 101, 1), math.MaxInt, -1},
		{rng(100, -101, -1), math.MinInt, -1}, {rng(-100, -101, -1), math.MaxInt, -1},
		{rng(-2, 101, 1), math.MaxInt, -1}, {rng(2, -101, -1), math.MinInt, -1},
	} {
		if got := impl.PlaceOf(c.r, c.x); got != c.want {
			t.Errorf("PlaceOf(%v, %d) = %d, not %d", c.r, c.x, got, c.want)
		}
	}
}

func TestNormalAndReverseValues(t *testing.T) {
	for _, c := range []struct{ r, normal, reverse impl.Range }{
		{rng(0, 10, 3), rng(0, 10, 3), rng(9, -1, -3)},
		{rng(0, 12, 3), rng(0, 10, 3), rng(9, -1, -3)},
		{rng(10, 0, -4), rng(10, 1, -4), rng(2, 11, 4)},
		{rng(5, 5, 2), noRange, noRange},
		{rng(5, 9, -2), noRange, noRange},
		{rng(-7, -9, 200), noRange, noRange},
		{rng(5, 6, 2), rng(5, 6, 1), rng(5, 6, 1)},
		{rng(5, 4, -2), rng(5, 6, 1), rng(5, 6, 1)},
		{rng(100, 99, -200), rng(100, 101, 1), rng(100, 101, 1)},
		{rng(-100, -101, -1), rng(-100, -99, 1), rng(-100, -99, 1)},
		{rng(-100, 101, 200), rng(-100, 101, 200), rng(100, -101, -200)},
		{rng(100, -101, -1), rng(100, -101, -1), rng(-100, 101, 1)},
	} {
		if got := impl.NormalRange(c.r); got != c.normal {
			t.Errorf("NormalRange(%v) = %v, not %v", c.r, got, c.normal)
		}
		if got := impl.ReverseRange(c.r); got != c.reverse {
			t.Errorf("ReverseRange(%v) = %v, not %v", c.r, got, c.reverse)
		}
	}
}

func TestValidSlice(t *testing.T) {
	for _, s := range append(manySlices(), between(100, -100, 200), between(-100, 100, -200)) {
		if !impl.ValidSlice(s) {
			t.Errorf("ValidSlice(%v) = false", s)
		}
	}
	for _, s := range badSlices() {
		if impl.ValidSlice(s) {
			t.Errorf("ValidSlice(%v) = true", s)
		}
	}
}

func TestIndicesOfValues(t *testing.T) {
	for _, c := range []struct {
		n    int
		s    impl.Slice
		want []int
	}{
		{5, open(1), []int{0, 1, 2, 3, 4}}, {5, open(-1), []int{4, 3, 2, 1, 0}},
		{5, open(2), []int{0, 2, 4}}, {6, open(-2), []int{5, 3, 1}},
		{5, from(-2, 1), []int{3, 4}}, {5, to(-2, 1), []int{0, 1, 2}},
		{5, from(-2, -1), []int{3, 2, 1, 0}}, {5, to(-2, -1), []int{4}},
		{5, between(3, 0, -1), []int{3, 2, 1}}, {5, between(1, 4, 2), []int{1, 3}},
		{5, between(-4, -1, 1), []int{1, 2, 3}}, {5, between(-1, -4, -2), []int{4, 2}},
		{5, from(5, 1), nil}, {5, from(30, 1), nil}, {5, from(-30, 1), []int{0, 1, 2, 3, 4}},
		{5, to(30, 1), []int{0, 1, 2, 3, 4}}, {5, to(-30, 1), nil}, {5, to(-5, 1), nil},
		{5, from(30, -1), []int{4, 3, 2, 1, 0}}, {5, from(5, -1), []int{4, 3, 2, 1, 0}}, {5, from(-30, -1), nil}, {5, from(-6, -1), nil},
		{5, from(-5, -1), []int{0}}, {5, to(30, -1), nil}, {5, to(4, -1), nil},
		{5, to(-30, -1), []int{4, 3, 2, 1, 0}}, {5, to(-6, -1), []int{4, 3, 2, 1, 0}}, {5, to(-5, -1), []int{4, 3, 2, 1}},
		{5, between(2, 3, 200), []int{2}}, {5, between(2, 1, -200), []int{2}}, {5, between(2, 2, 1), nil}, {5, between(2, 2, -1), nil},
		{5, between(3, 1, 1), nil}, {5, between(1, 3, -1), nil}, {5, between(-100, 100, 4), []int{0, 4}},
		{1, open(1), []int{0}}, {1, open(-1), []int{0}}, {1, from(-1, 1), []int{0}}, {1, from(1, 1), nil},
		{0, open(1), nil}, {0, open(-1), nil}, {0, from(3, -1), nil}, {0, between(100, -100, -1), nil}, {0, between(-100, 100, 1), nil},
		{60, from(59, 1), []int{59}}, {60, open(59), []int{0, 59}}, {60, to(-60, -59), []int{59}},
	} {
		if got := impl.IndicesOf(c.n, c.s); !slices.Equal(got, c.want) {
			t.Errorf("IndicesOf(%d, %v) = %v, not %v", c.n, c.s, got, c.want)
		}
	}
}

// TestBadSlices checks the fixed results for slices that are not valid, and for other numbers of things.
func TestBadSlices(t *testing.T) {
	r := rng(0, 10, 3)
	for _, s := range badSlices() {
		if got := impl.IndicesOf(5, s); len(got) != 0 {
			t.Errorf("IndicesOf(5, %v) = %v", s, got)
		}
		if got := impl.SliceRange(r, s); got != (impl.Range{}) {
			t.Errorf("SliceRange(%v, %v) = %v", r, s, got)
		}
		if a, b := impl.MergeSlices(5, s, open(1)), impl.MergeSlices(5, open(1), s); a != (impl.Slice{}) || b != (impl.Slice{}) {
			t.Errorf("MergeSlices with %v = %v and %v", s, a, b)
		}
	}
	for _, n := range badCounts() {
		if got := impl.IndicesOf(n, open(1)); len(got) != 0 {
			t.Errorf("IndicesOf(%d) = %v", n, got)
		}
		if got := impl.MergeSlices(n, open(1), open(1)); got != (impl.Slice{}) {
			t.Errorf("MergeSlices(%d) = %v", n, got)
		}
	}
}

func TestSliceRangeValues(t *testing.T) {
	r := rng(0, 10, 3)
	for _, c := range []struct {
		r    impl.Range
		s    impl.Slice
		want impl.Range
	}{
		{r, open(1), r}, {rng(0, 12, 3), open(1), r}, {r, open(-1), rng(9, -1, -3)}, {r, open(-2), rng(9, 2, -6)},
		{r, from(-1, 1), rng(9, 10, 1)}, {r, from(-1, -200), rng(9, 10, 1)}, {r, from(4, 1), noRange}, {r, between(2, 2, 1), noRange},
		{r, between(1, 3, 1), rng(3, 7, 3)}, {r, from(100, -1), rng(9, -1, -3)}, {r, to(-100, -3), rng(9, -1, -9)},
		{rng(10, 0, -4), open(2), rng(10, 1, -8)}, {rng(10, 0, -4), open(-1), rng(2, 11, 4)}, {rng(10, 0, -4), to(-1, 1), rng(10, 5, -4)},
		{noRange, open(1), noRange}, {rng(5, 3, 2), open(-1), noRange}, {rng(7, 8, 200), open(-200), rng(7, 8, 1)},
		{rng(-100, 101, 200), open(-1), rng(100, -101, -200)}, {rng(1, 61, 1), open(59), rng(1, 61, 59)},
		{rng(1, 61, 1), open(1), rng(1, 61, 1)}, {rng(60, 0, -1), open(-1), rng(1, 61, 1)},
	} {
		if got := impl.SliceRange(c.r, c.s); got != c.want {
			t.Errorf("SliceRange(%v, %v) = %v, not %v", c.r, c.s, got, c.want)
		}
	}
	// More numbers than cells are not sliced, even if few of them are asked for.
	for _, long := range []impl.Range{rng(1, 62, 1), rng(61, 0, -1), rng(-100, 101, 1), rng(-100, 101, 3)} {
		for _, s := range []impl.Slice{open(1), open(-1), open(200), between(0, 1, 1), between(0, 0, 1)} {
			if got := impl.SliceRange(long, s); got != (impl.Range{}) {
				t.Errorf("SliceRange(%v, %v) = %v", long, s, got)
			}
		}
	}
}

func TestMergeSlicesValues(t *testing.T) {
	for _, c := range []struct {
		n    int
		a, b impl.Slice
		want impl.Slice
	}{
		{10, open(2), open(-1), from(8, -2)},
		{10, open(1), open(1), between(0, 10, 1)},
		{10, open(-1), open(1), from(9, -1)},
		{10, open(-1), open(-1), between(0, 10, 1)},
		{10, open(-1), to(-1, 1), between(9, 0, -1)},
		{10, open(-1), to(-1, 2), between(9, 0, -2)},
		{10, from(2, 3), from(1, 1), between(5, 9, 3)},
		{10, from(2, 3), from(1, 2), between(5, 6, 1)},
		{10, from(-100, 1), to(100, 9), between(0, 10, 9)},
		{10, between(3, 4, -1), open(1), between(0, 0, 1)},
		{10, open(1), from(10, 1), between(0, 0, 1)},
		{10, to(1, 1), open(-1), between(0, 1, 1)},
		{1, open(-1), open(-1), between(0, 1, 1)},
		{0, open(-1), open(-1), between(0, 0, 1)},
		{0, open(1), from(100, -200), between(0, 0, 1)},
		{60, open(-59), open(1), from(59, -59)},
		{60, open(1), open(59), between(0, 60, 59)},
	} {
		if got := impl.MergeSlices(c.n, c.a, c.b); got != c.want {
			t.Errorf("MergeSlices(%d, %v, %v) = %v, not %v", c.n, c.a, c.b, got, c.want)
		}
	}
}

func TestMeetRangesValues(t *testing.T) {
	for _, c := range []struct{ a, b, want impl.Range }{
		{rng(0, 20, 3), rng(1, 20, 4), rng(9, 10, 1)},
		{rng(0, 50, 4), rng(2, 50, 6), rng(8, 45, 12)},
		{rng(0, 50, 4), rng(1, 50, 6), noRange},
		{rng(0, 10, 1), rng(10, 20, 1), noRange},
		{rng(0, 10, 1), rng(9, 20, 1), rng(9, 10, 1)},
		{rng(9, -1, -3), rng(0, 10, 3), rng(0, 10, 3)},
		{rng(9, -1, -3), rng(9, -1, -3), rng(0, 10, 3)},
		{rng(9, -1, -3), rng(8, -1, -2), rng(0, 7, 6)},
		{rng(5, 6, 7), rng(0, 10, 5), rng(5, 6, 1)},
		{rng(6, 7, 7), rng(0, 10, 5), noRange},
		{rng(5, 5, 7), rng(0, 10, 5), noRange},
		{noRange, noRange, noRange},
		{rng(-100, 101, 200), rng(100, -101, -200), rng(-100, 101, 200)},
		{rng(-100, 101, 200), rng(100, -101, -8), rng(-100, 101, 200)},
		{rng(-100, 101, 199), rng(-100, 101, 200), rng(-100, -99, 1)},
	} {
		if got := impl.MeetRanges(c.a, c.b); got != c.want {
			t.Errorf("MeetRanges(%v, %v) = %v, not %v", c.a, c.b, got, c.want)
		}
		if got := impl.MeetRanges(c.b, c.a); got != c.want {
			t.Errorf("MeetRanges(%v, %v) = %v, not %v", c.b, c.a, got, c.want)
		}
	}
}

func TestCoversRangeValues(t *testing.T) {
	for _, c := range []struct {
		a, b impl.Range
		want bool
	}{
		{rng(0, 10, 3), rng(0, 10, 6), true}, {rng(0, 10, 6), rng(0, 10, 3), false},
		{rng(0, 10, 3), rng(9, -1, -3), true}, {rng(9, -1, -3), rng(0, 12, 9), true},
		{rng(0, 10, 3), rng(5, 5, 1), true}, {noRange, rng(7, 3, 2), true}, {noRange, rng(0, 1, 1), false},
		{rng(0, 10, 3), rng(3, 4, 200), true}, {rng(0, 10, 3), rng(4, 5, 200), false}, {rng(0, 10, 3), rng(0, 13, 3), false},
		{rng(-100, 101, 1), rng(100, -101, -200), true},
	} {
		if got := impl.CoversRange(c.a, c.b); got != c.want {
			t.Errorf("CoversRange(%v, %v) = %v", c.a, c.b, got)
		}
	}
}

func TestSumOfValues(t *testing.T) {
	for _, c := range []struct {
		r    impl.Range
		want int
	}{
		{rng(0, 10, 3), 18}, {rng(10, 0, -4), 18}, {rng(5, 5, 1), 0}, {rng(-5, -4, 200), -5}, {rng(-100, 101, 1), 0},
		{rng(-100, 0, 1), -5050}, {rng(100, 0, -1), 5050}, {rng(7, 2, 3), 0}, {rng(-3, 5, 5), -1},
	} {
		if got := impl.SumOf(c.r); got != c.want {
			t.Errorf("SumOf(%v) = %d, not %d", c.r, got, c.want)
		}
	}
}

func TestDealRangeValues(t *testing.T) {
	for _, c := range []struct {
		r    impl.Range
		ways int
		want []impl.Range
	}{
		{rng(0, 10, 3), 1, []impl.Range{rng(0, 10, 3)}},
		{rng(0, 12, 3), 1, []impl.Range{rng(0, 10, 3)}},
		{rng(0, 10, 3), 2, []impl.Range{rng(0, 7, 6), rng(3, 10, 6)}},
		{rng(0, 10, 3), 3, []impl.Range{rng(0, 10, 9), rng(3, 4, 1), rng(6, 7, 1)}},
		{rng(10, 0, -4), 2, []impl.Range{rng(10, 1, -8), rng(6, 7, 1)}},
		{rng(5, 6, 9), 3, []impl.Range{rng(5, 6, 1), noRange, noRange}},
		{rng(5, 5, 9), 2, []impl.Range{noRange, noRange}},
		{rng(0, 7, 1), 6, []impl.Range{rng(0, 7, 6), rng(1, 2, 1), rng(2, 3, 1), rng(3, 4, 1), rng(4, 5, 1), rng(5, 6, 1)}},
	} {
		if got := impl.DealRange(c.r, c.ways); !slices.Equal(got, c.want) {
			t.Errorf("DealRange(%v, %d) = %v, not %v", c.r, c.ways, got, c.want)
		}
	}
	for _, ways := range []int{0, -1, 7, math.MaxInt, math.MinInt} {
		if got := impl.DealRange(rng(0, 10, 3), ways); len(got) != 0 {
			t.Errorf("DealRange by %d = %v", ways, got)
		}
	}
}

// TestResultsAreFresh checks that no two results share memory.
func TestResultsAreFresh(t *testing.T) {
	r, s := rng(0, 10, 3), open(2)
	a, b, c := impl.NumbersOf(r), impl.IndicesOf(5, s), impl.DealRange(r, 2)
	a[0], b[0], c[0] = 77, 77, rng(7, 7, 7)
	if impl.NumbersOf(r)[0] != 0 || impl.IndicesOf(5, s)[0] != 0 || impl.DealRange(r, 2)[0] != rng(0, 7, 6) {
		t.Error("a later call sees what was written into the result of an earlier one")
	}
}
