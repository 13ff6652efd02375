package tests

import (
	"math"
	"slices"
	"testing"

	"loop.example/strideviews/impl"
)

func TestLimitsOfItems(t *testing.T) {
	if impl.MaxFields != 5 {
		t.Errorf("the limit is %d", impl.MaxFields)
	}
}

func TestValidFormatValues(t *testing.T) {
	for _, sizes := range [][]int{{1}, {2}, {4}, {1, 1}, {4, 4, 4, 4, 4}, {1, 2, 4, 2, 1}, {4, 1, 1, 1, 2}, make([]int, 0, 9)} {
		for _, f := range fourKinds(sizes) {
			if got := impl.ValidFormat(f); got != (len(sizes) > 0) {
				t.Errorf("ValidFormat(%v) = %v", f, got)
			}
		}
	}
	for _, f := range append(badFormats(), impl.Format{}) {
		if impl.ValidFormat(f) {
			t.Errorf("%v is a format", f)
		}
	}
}

func TestPlacesValues(t *testing.T) {
	for _, c := range []struct {
		f       impl.Format
		places  []int
		size    int
		padding []int
	}{
		{packedFormat(1, 4, 2), ints(0, 1, 5), 7, nil},
		{packedFormat(2, 1, 2, 4, 4), ints(0, 2, 3, 5, 9), 13, nil},
		{packedFormat(4, 4, 4, 4, 4), ints(0, 4, 8, 12, 16), 20, nil},
		// Items of one byte, and of one field.
		{packedFormat(1), ints(0), 1, nil},
		{alignedFormat(1), ints(0), 1, nil},
		{alignedFormat(2), ints(0), 2, nil},
		{packedFormat(4), ints(0), 4, nil},
		{alignedFormat(1, 1, 1, 1, 1), ints(0, 1, 2, 3, 4), 5, nil},
		// Padding between fields, at the end, in both places, and none, as sizes go down.
		{alignedFormat(1, 4, 2), ints(0, 4, 8), 12, ints(1, 2, 3, 10, 11)},
		{alignedFormat(1, 2), ints(0, 2), 4, ints(1)},
		{alignedFormat(1, 4), ints(0, 4), 8, ints(1, 2, 3)},
		{alignedFormat(2, 4), ints(0, 4), 8, ints(2, 3)},
		{alignedFormat(1, 1, 2), ints(0, 1, 2), 4, nil},
		{alignedFormat(1, 1, 1, 4), ints(0, 1, 2, 4), 8, ints(3)},
		{alignedFormat(1, 2, 1, 4), ints(0, 2, 4, 8), 12, ints(1, 5, 6, 7)},
		{alignedFormat(4, 1), ints(0, 4), 8, ints(5, 6, 7)},
		{alignedFormat(4, 2), ints(0, 4), 8, ints(6, 7)},
		{alignedFormat(2, 1), ints(0, 2), 4, ints(3)},
		{alignedFormat(4, 2, 1, 1), ints(0, 4, 6, 7), 8, nil},
		{alignedFormat(2, 1, 1), ints(0, 2, 3), 4, nil},
		{alignedFormat(4, 1, 1, 1), ints(0, 4, 5, 6), 8, ints(7)},
		{alignedFormat(1, 4, 1, 4, 1), ints(0, 4, 8, 12, 16), 20, ints(1, 2, 3, 9, 10, 11, 17, 18, 19)},
		{alignedFormat(2, 1, 2, 4, 4), ints(0, 2, 4, 8, 12), 16, ints(3, 6, 7)},
		{alignedFormat(4, 4, 4, 4, 4), ints(0, 4, 8, 12, 16), 20, nil},
	} {
		// The order of the bytes does not matter here.
		for _, f := range []impl.Format{c.f, bigOf(c.f)} {
			if got := impl.PlacesOf(f); !slices.Equal(got, c.places) {
				t.Errorf("PlacesOf(%v) = %v, not %v", f, got, c.places)
			}
			if got := impl.ItemSize(f); got != c.size {
				t.Errorf("ItemSize(%v) = %d, not %d", f, got, c.size)
			}
			if got := impl.PaddingOf(f); !slices.Equal(got, c.padding) {
				t.Errorf("PaddingOf(%v) = %v, not %v", f, got, c.padding)
			}
		}
	}
}

// itemCase is a format, the values of an item, and its bytes.
type itemCase struct {
	f      impl.Format
	values []int
	bytes  []int
}

// itemCases returns items of several formats.
func itemCases() []itemCase {
	return []itemCase{
		{packedFormat(1, 4, 2), ints(1, 258, 3), ints(1, 2, 1, 0, 0, 3, 0)},
		{bigOf(packedFormat(1, 4, 2)), ints(1, 258, 3), ints(1, 0, 0, 1, 2, 0, 3)},
		{alignedFormat(1, 4, 2), ints(1, 0x0a0b0c0d, 0x1e1f), ints(1, 0, 0, 0, 13, 12, 11, 10, 31, 30, 0, 0)},
		{bigOf(alignedFormat(1, 4, 2)), ints(1, 0x0a0b0c0d, 0x1e1f), ints(1, 0, 0, 0, 10, 11, 12, 13, 30, 31, 0, 0)},
		{alignedFormat(4, 1), ints(1, 2), ints(1, 0, 0, 0, 2, 0, 0, 0)},
		{bigOf(alignedFormat(4, 1)), ints(1, 2), ints(0, 0, 0, 1, 2, 0, 0, 0)},
		{bigOf(alignedFormat(1, 2, 1)), ints(7, 8, 9), ints(7, 0, 0, 8, 9, 0)},
		// Items of one byte are the same in both orders.
		{packedFormat(1), ints(200), ints(200)}, {bigOf(packedFormat(1)), ints(200), ints(200)}, {alignedFormat(1), ints(0), ints(0)}, {bigOf(alignedFormat(1)), ints(255), ints(255)},
		{bigOf(packedFormat(1, 1, 1)), ints(1, 2, 3), ints(1, 2, 3)},
		// The greatest values, those next to a full byte, and the least ones.
		{packedFormat(1, 2, 4), ints(255, 65535, 4294967295), ints(255, 255, 255, 255, 255, 255, 255)},
		{packedFormat(2, 2, 2, 2), ints(255, 256, 257, 65534), ints(255, 0, 0, 1, 1, 1, 254, 255)},
		{bigOf(packedFormat(2, 2, 2, 2)), ints(255, 256, 257, 65534), ints(0, 255, 1, 0, 1, 1, 255, 254)},
		{packedFormat(4, 4, 4, 4), ints(65535, 65536, 1<<24, 1<<32-2), ints(255, 255, 0, 0, 0, 0, 1, 0, 0, 0, 0, 1, 254, 255, 255, 255)},
		{bigOf(packedFormat(4, 4, 4, 4)), ints(65535, 65536, 1<<24, 1<<31), ints(0, 0, 255, 255, 0, 1, 0, 0, 1, 0, 0, 0, 128, 0, 0, 0)},
		{alignedFormat(4, 4, 4, 4, 4), ints(0, 0, 0, 0, 0), make([]int, 20)},
	}
}

func TestItemValues(t *testing.T) {
	for _, c := range itemCases() {
		if got := impl.PackItem(c.f, c.values); !slices.Equal(got, c.bytes) {
			t.Errorf("PackItem(%v, %v) = %v, not %v", c.f, c.values, got, c.bytes)
		}
		if got, ok := impl.UnpackItem(c.f, c.bytes); !ok || !slices.Equal(got, c.values) {
			t.Errorf("UnpackItem(%v, %v) = %v, %v, not %v", c.f, c.bytes, got, ok, c.values)
		}
		// Two items, one behind the other, with an empty one between them.
		zero := make([]int, len(c.values))
		items, bytes := [][]int{c.values, zero, c.values}, slices.Concat(c.bytes, make([]int, len(c.bytes)), c.bytes)
		if got := impl.PackAll(c.f, items); !slices.Equal(got, bytes) {
			t.Errorf("PackAll(%v, %v) = %v, not %v", c.f, items, got, bytes)
		}
		if got, ok := impl.UnpackAll(c.f, bytes); !ok || !sameItems(got, items) {
			t.Errorf("UnpackAll(%v, %v) = %v, %v, not %v", c.f, bytes, got, ok, items)
		}
	}
	// Bytes of no field may be any.
	for _, bytes := range [][]int{{7, 255, 1, 2, 0, 1, 0, 0, 5, 0, 9, 255}, {7, 0, 0, 0, 0, 1, 0, 0, 5, 0, 0, 0}} {
		if got, ok := impl.UnpackItem(alignedFormat(1, 4, 2), bytes); !ok || !slices.Equal(got, ints(7, 256, 5)) {
			t.Errorf("UnpackItem(%v) = %v, %v", bytes, got, ok)
		}
	}
}

func TestBadItems(t *testing.T) {
	for _, f := range manyFormats() {
		for _, values := range badItemValues(f) {
			if got := impl.PackItem(f, values); len(got) != 0 {
				t.Fatalf("PackItem(%v, %v) = %v", f, values, got)
			}
			zero := make([]int, len(f.Sizes))
			for _, items := range [][][]int{{values}, {zero, values}, {values, zero}} {
				if got := impl.PackAll(f, items); len(got) != 0 {
					t.Fatalf("PackAll(%v, %v) = %v", f, items, got)
				}
			}
		}
		size := len(plainOwners(f))
		for _, n := range ints(0, size-1, size+1, 2*size, 60, 61) {
			if n != size {
				checkNoValues(t, f, make([]int, n))
			}
		}
		for _, value := range []int{-1, 256, 511, math.MaxInt, math.MinInt} {
			// Bytes of no field have to be bytes, too.
			for x := range size {
				checkNoValues(t, f, with(make([]int, size), x, value))
				checkNoItems(t, f, with(make([]int, size), x, value))
			}
			checkNoItems(t, f, with(make([]int, mostItems(f)*size), mostItems(f)*size-1, value))
		}
	}
}

func TestBadNumbersOfItems(t *testing.T) {
	for _, f := range manyFormats() {
		size, most := len(plainOwners(f)), mostItems(f)
		zero := make([]int, len(f.Sizes))
		if got := impl.PackAll(f, slices.Repeat([][]int{zero}, most)); !slices.Equal(got, make([]int, most*size)) {
			t.Fatalf("PackAll(%v) of %d items = %v", f, most, got)
		}
		for _, many := range ints(most+1, most+2, 61, 1000) {
			if got := impl.PackAll(f, slices.Repeat([][]int{zero}, many)); len(got) != 0 {
				t.Fatalf("PackAll(%v) of %d items = %v", f, many, got)
			}
		}
		for n := range 2*60 + 1 {
			if n%size != 0 || n > 60 {
				checkNoItems(t, f, make([]int, n))
				continue
			}
			if got, ok := impl.UnpackAll(f, make([]int, n)); !ok || len(got) != n/size || !sameItems(got, slices.Repeat([][]int{zero}, n/size)) {
				t.Fatalf("UnpackAll(%v) of %d bytes = %v, %v", f, n, got, ok)
			}
			if got := impl.SwapBytes(f, make([]int, n)); !slices.Equal(got, make([]int, n)) {
				t.Fatalf("SwapBytes(%v) of %d bytes = %v", f, n, got)
			}
		}
	}
}

// TestAllBytesAreItems goes up to 60 items of one byte, which are the bytes themselves.
func TestAllBytesAreItems(t *testing.T) {
	for _, f := range fourKinds(ints(1)) {
		for _, mem := range manyMemories() {
			items, ok := impl.UnpackAll(f, mem)
			if !ok || !slices.Equal(slices.Concat(items...), mem) || len(items) != len(mem) {
				t.Errorf("UnpackAll(%v, %v) = %v, %v", f, mem, items, ok)
			}
			if got := impl.PackAll(f, items); !slices.Equal(got, mem) {
				t.Errorf("PackAll(%v, %v) = %v", f, items, got)
			}
			if got := impl.SwapBytes(f, mem); !slices.Equal(got, mem) {
				t.Errorf("SwapBytes(%v, %v) = %v", f, mem, got)
			}
		}
		for _, mem := range badMemories() {
			checkNoItems(t, f, mem)
		}
	}
}

func TestSwapBytesValues(t *testing.T) {
	f, g := packedFormat(1, 4, 2), alignedFormat(1, 2, 1)
	for _, c := range []struct {
		f           impl.Format
		bytes, want []int
	}{
		{f, ints(1, 2, 3, 4, 5, 6, 7), ints(1, 5, 4, 3, 2, 7, 6)}, {bigOf(f), ints(1, 5, 4, 3, 2, 7, 6), ints(1, 2, 3, 4, 5, 6, 7)},
		{f, ints(1, 2, 3, 4, 5, 6, 7, 11, 12, 13, 14, 15, 16, 17), ints(1, 5, 4, 3, 2, 7, 6, 11, 15, 14, 13, 12, 17, 16)},
		// Padding between fields and at the end is 0 then.
		{g, ints(1, 99, 3, 4, 5, 99, 7, 88, 9, 10, 11, 88), ints(1, 0, 4, 3, 5, 0, 7, 0, 10, 9, 11, 0)}, {bigOf(g), ints(1, 99, 3, 4, 5, 99), ints(1, 0, 4, 3, 5, 0)},
		{alignedFormat(4, 1), ints(1, 2, 3, 4, 5, 6, 7, 8), ints(4, 3, 2, 1, 5, 0, 0, 0)},
		{packedFormat(2, 2), ints(1, 2, 3, 4), ints(2, 1, 4, 3)}, {packedFormat(4), ints(1, 2, 3, 4), ints(4, 3, 2, 1)}, {bigOf(packedFormat(1, 1)), ints(1, 2, 3, 4), ints(1, 2, 3, 4)},
		{f, nil, nil}, {bigOf(g), ints(), nil},
	} {
		if got := impl.SwapBytes(c.f, c.bytes); !slices.Equal(got, c.want) {
			t.Errorf("SwapBytes(%v, %v) = %v, not %v", c.f, c.bytes, got, c.want)
		}
	}
}

func TestFieldViewValues(t *testing.T) {
	f, g := packedFormat(1, 4, 2), alignedFormat(1, 4, 2)
	for _, c := range []struct {
		f       impl.Format
		k, many int
		want    impl.View
	}{
		{f, 0, 2, vw(0, ints(2, 1), 7, 1)}, {f, 1, 2, vw(1, ints(2, 4), 7, 1)}, {f, 2, 2, vw(5, ints(2, 2), 7, 1)},
		{bigOf(f), 0, 2, vw(0, ints(2, 1), 7, -1)}, {bigOf(f), 1, 2, vw(4, ints(2, 4), 7, -1)}, {bigOf(f), 2, 2, vw(6, ints(2, 2), 7, -1)},
		{g, 1, 3, vw(4, ints(3, 4), 12, 1)}, {bigOf(g), 2, 3, vw(9, ints(3, 2), 12, -1)}, {g, 2, 1, vw(8, ints(1, 2), 12, 1)},
		// Fields of items whose other bytes would be beyond all cells.
		{f, 0, 9, vw(0, ints(9, 1), 7, 1)}, {bigOf(f), 0, 9, vw(0, ints(9, 1), 7, -1)}, {g, 0, 5, vw(0, ints(5, 1), 12, 1)}, {packedFormat(4, 1, 4), 0, 7, vw(0, ints(7, 4), 9, 1)}, {bigOf(packedFormat(4, 1, 4)), 1, 7, vw(4, ints(7, 1), 9, -1)},
		// Items of one byte, and of one field.
		{packedFormat(1), 0, 60, vw(0, ints(60, 1), 1, 1)}, {bigOf(packedFormat(1)), 0, 60, vw(0, ints(60, 1), 1, -1)}, {bigOf(alignedFormat(1)), 0, 1, vw(0, ints(1, 1), 1, -1)},
		{packedFormat(4), 0, 15, vw(0, ints(15, 4), 4, 1)}, {bigOf(packedFormat(4)), 0, 15, vw(3, ints(15, 4), 4, -1)}, {bigOf(packedFormat(2)), 0, 30, vw(1, ints(30, 2), 2, -1)},
		{bigOf(packedFormat(4, 4, 4, 4, 4)), 4, 3, vw(19, ints(3, 4), 20, -1)}, {alignedFormat(1, 4, 1, 4, 1), 4, 3, vw(16, ints(3, 1), 20, 1)},
	} {
		got, ok := impl.FieldView(c.f, c.k, c.many)
		if !ok || !sameViews(got, c.want) {
			t.Errorf("FieldView(%v, %d, %d) = %v, %v, not %v", c.f, c.k, c.many, got, ok, c.want)
		}
	}
}

// checkNoField fails if a result is not the zero value and false.
func checkNoField(t *testing.T, f impl.Format, k int, many int) {
	t.Helper()
	if got, ok := impl.FieldView(f, k, many); ok || !isZero(got) {
		t.Fatalf("FieldView(%v, %d, %d) = %v, %v", f, k, many, got, ok)
	}
}

func TestBadFieldViews(t *testing.T) {
	for _, f := range manyFormats() {
		for _, k := range append(badDims(len(f.Sizes)), 5) {
			checkNoField(t, f, k, 1)
		}
		for k := range f.Sizes {
			for _, many := range []int{0, -1, -2, 61, 1 << 30, 1 << 61, 1 << 62, math.MaxInt, math.MinInt, math.MinInt + 1} {
				checkNoField(t, f, k, many)
			}
			for _, many := range ints(mostItems(f), mostItems(f)+1, mostItems(f)+2, 30, 59, 60) {
				if _, valid := plainFieldView(f, k, many); !valid {
					checkNoField(t, f, k, many)
				}
			}
		}
	}
	for _, c := range []struct {
		f       impl.Format
		k, many int
	}{
		{alignedFormat(1, 4, 2), 0, 6}, {packedFormat(1, 4, 2), 1, 9}, {packedFormat(1, 4, 2), 0, 10}, {packedFormat(1), 0, 61}, {packedFormat(4), 0, 16}, {packedFormat(4, 1, 4), 2, 7}, {bigOf(packedFormat(4, 1, 4)), 2, 7},
	} {
		checkNoField(t, c.f, c.k, c.many)
	}
}

func TestBadFormats(t *testing.T) {
	for _, f := range append(badFormats(), impl.Format{}) {
		if got := impl.PlacesOf(f); len(got) != 0 {
			t.Errorf("PlacesOf(%v) = %v", f, got)
		}
		if got := impl.PaddingOf(f); len(got) != 0 {
			t.Errorf("PaddingOf(%v) = %v", f, got)
		}
		if got := impl.ItemSize(f); got != -1 {
			t.Errorf("ItemSize(%v) = %d", f, got)
		}
		values := make([]int, len(f.Sizes))
		for _, items := range [][][]int{nil, {values}, {nil}} {
			if got := impl.PackAll(f, items); len(got) != 0 {
				t.Errorf("PackAll(%v, %v) = %v", f, items, got)
			}
		}
		if got := impl.PackItem(f, values); len(got) != 0 {
			t.Errorf("PackItem(%v, %v) = %v", f, values, got)
		}
		for n := range 61 {
			checkNoValues(t, f, make([]int, n))
			checkNoItems(t, f, make([]int, n))
		}
		for k := -1; k <= len(f.Sizes); k++ {
			checkNoField(t, f, k, 1)
		}
	}
}

// roomy returns a list with more room behind it, and all of that.
func roomy(list ...int) ([]int, []int) {
	all := append(list, 77, 77, 77)
	return all[:len(list)], all
}

// TestItemsAreFreshAndKept checks that no two results share memory, that no argument is changed, neither within its length nor behind it, and that results are the same each time.
func TestItemsAreFreshAndKept(t *testing.T) {
	sizes, allSizes := roomy(1, 4, 2)
	values, allValues := roomy(1, 258, 3)
	bytes, allBytes := roomy(itemBytes(alignedFormat(1, 4, 2), 2)...)
	wantBytes := slices.Clone(allBytes)
	f := alignedFormat(sizes...)
	items := [][]int{values, values}
	call := func() [][]int {
		list := [][]int{impl.PlacesOf(f), impl.PaddingOf(f), impl.PackItem(f, values), impl.PackAll(f, items), impl.PackAll(f, items[:1]), impl.SwapBytes(f, bytes)}
		one, _ := impl.UnpackItem(f, bytes[:12])
		all, _ := impl.UnpackAll(f, bytes)
		v, _ := impl.FieldView(f, 1, 2)
		w, _ := impl.FieldView(f, 1, 2)
		return append(append(list, one, v.Shape, v.Strides, w.Shape, w.Strides), all...)
	}
	before := call()
	for i, got := range call() {
		if len(got) < 2 || !slices.Equal(got, before[i]) {
			t.Fatalf("result %d is %v, and was %v", i, got, before[i])
		}
	}
	spoiled := call()
	for i, got := range spoiled {
		if !slices.Equal(got, before[i]) {
			t.Fatalf("result %d is %v, and was %v", i, got, before[i])
		}
		for k := range got {
			got[k] = 44
		}
		for k := range got[:cap(got)] {
			got[:cap(got)][k] = 55
		}
	}
	for i, got := range call() {
		if !slices.Equal(got, before[i]) {
			t.Fatalf("result %d is %v, and was %v", i, got, before[i])
		}
	}
	if !slices.Equal(allSizes, ints(1, 4, 2, 77, 77, 77)) || !slices.Equal(allValues, ints(1, 258, 3, 77, 77, 77)) || !slices.Equal(allBytes, wantBytes) {
		t.Errorf("an argument was changed: %v, %v, %v", allSizes, allValues, allBytes)
	}
	if !sameItems(items, [][]int{ints(1, 258, 3), ints(1, 258, 3)}) || f.Big || !f.Aligned {
		t.Errorf("an argument was changed: %v, %v", items, f)
	}
}
