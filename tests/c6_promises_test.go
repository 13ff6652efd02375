package tests

import (
	"slices"
	"testing"

	"loop.example/strideviews/impl"
)

// TestP75FieldsCanBeLeftOut needs formats that are not valid, too: one is not made valid by fields that are left out behind a bad one, and one of one field has none to be left out.
func TestP75FieldsCanBeLeftOut(t *testing.T) {
	for _, f := range manyFormats() {
		for n := len(f.Sizes); n >= 0; n-- {
			some := impl.Format{Sizes: f.Sizes[:n], Big: f.Big, Aligned: f.Aligned}
			if impl.ValidFormat(some) != (n > 0) {
				t.Fatalf("ValidFormat(%v) = %v", some, n == 0)
			}
		}
	}
	for _, f := range badFormats() {
		for n := range len(f.Sizes) + 1 {
			some := impl.Format{Sizes: f.Sizes[:n], Big: f.Big, Aligned: f.Aligned}
			want := n >= 1 && n <= 5 && !slices.ContainsFunc(some.Sizes, func(size int) bool { return size != 1 && size != 2 && size != 4 })
			if got := impl.ValidFormat(some); got != want {
				t.Fatalf("ValidFormat(%v) = %v", some, got)
			}
		}
	}
}

func TestP76FieldsDoNotOverlap(t *testing.T) {
	moved := 0
	for _, f := range manyFormats() {
		got, end := impl.PlacesOf(f), 0
		if len(got) != len(f.Sizes) {
			t.Fatalf("PlacesOf(%v) = %v", f, got)
		}
		for k, first := range got {
			size := f.Sizes[k]
			if first < end || first >= end+size || !f.Aligned && first != end || f.Aligned && first%size != 0 {
				t.Fatalf("PlacesOf(%v) = %v, but the field %d can begin at %d", f, got, k, end)
			}
			if want := bytesOwned(f, k)[0]; first != want {
				t.Fatalf("PlacesOf(%v) = %v, but the field %d begins at %d", f, got, k, want)
			}
			if first > end {
				moved++
			}
			end = first + size
		}
	}
	if moved == 0 {
		t.Fatal("no field was aligned")
	}
}

func TestP77ItemsHoldTheirFields(t *testing.T) {
	for _, f := range manyFormats() {
		got, sum := impl.ItemSize(f), len(impl.PaddingOf(f))
		for _, size := range f.Sizes {
			sum += size
			if f.Aligned && got%size != 0 {
				t.Fatalf("ItemSize(%v) = %d", f, got)
			}
		}
		if got != sum || got != len(plainOwners(f)) {
			t.Fatalf("ItemSize(%v) = %d, but there are %d bytes of fields and padding, and a walk makes %d", f, got, sum, len(plainOwners(f)))
		}
	}
}

func TestP78PaddingIsForAlignment(t *testing.T) {
	var inside, atEnd int
	for _, f := range manyFormats() {
		got := impl.PaddingOf(f)
		if !f.Aligned && len(got) != 0 {
			t.Fatalf("PaddingOf(%v) = %v", f, got)
		}
		if want := bytesOwned(f, -1); !slices.Equal(got, want) {
			t.Fatalf("PaddingOf(%v) = %v, not %v", f, got, want)
		}
		places, size := impl.PlacesOf(f), impl.ItemSize(f)
		last := places[len(places)-1] + f.Sizes[len(places)-1]
		for _, x := range got {
			for k, first := range places {
				if x >= first && x < first+f.Sizes[k] {
					t.Fatalf("PaddingOf(%v) = %v, but %d is a byte of the field %d", f, got, x, k)
				}
			}
			if x < 0 || x >= size {
				t.Fatalf("PaddingOf(%v) = %v is beyond %d bytes", f, got, size)
			}
			if x < last {
				inside++
			} else {
				atEnd++
			}
		}
	}
	if inside == 0 || atEnd == 0 {
		t.Fatalf("%d bytes of padding are between fields, and %d at the end", inside, atEnd)
	}
}

func TestP79ItemsAreUnpacked(t *testing.T) {
	for _, f := range manyFormats() {
		for _, values := range itemValues(f) {
			item := impl.PackItem(f, values)
			if want := plainPack(f, values); !slices.Equal(item, want) {
				t.Fatalf("PackItem(%v, %v) = %v, not %v", f, values, item, want)
			}
			if got, ok := impl.UnpackItem(f, item); !ok || !slices.Equal(got, values) {
				t.Fatalf("UnpackItem(%v, %v) = %v, %v, not %v", f, item, got, ok, values)
			}
			for _, x := range impl.PaddingOf(f) {
				if item[x] != 0 {
					t.Fatalf("PackItem(%v, %v) = %v has padding at %d", f, values, item, x)
				}
			}
		}
	}
}

func TestP80BytesArePackedAgain(t *testing.T) {
	for _, f := range manyFormats() {
		bytes := itemBytes(f, 1)
		for _, item := range [][]int{bytes, make([]int, len(bytes)), slices.Repeat(ints(255), len(bytes)), backward(bytes)} {
			values, ok := impl.UnpackItem(f, item)
			if want := plainUnpack(f, item); !ok || !slices.Equal(values, want) {
				t.Fatalf("UnpackItem(%v, %v) = %v, %v, not %v", f, item, values, ok, want)
			}
			want := slices.Clone(item)
			for _, x := range impl.PaddingOf(f) {
				want[x] = 0
			}
			if got := impl.PackItem(f, values); !slices.Equal(got, want) {
				t.Fatalf("PackItem(%v, %v) = %v, not %v", f, values, got, want)
			}
		}
	}
}

func TestP81ItemsLieOneBehindTheOther(t *testing.T) {
	for _, f := range manyFormats() {
		size := impl.ItemSize(f)
		for _, items := range itemLists(f) {
			bytes := impl.PackAll(f, items)
			if len(bytes) != len(items)*size || !slices.Equal(bytes, plainPackAll(f, items)) {
				t.Fatalf("PackAll(%v, %v) = %v", f, items, bytes)
			}
			for i, values := range items {
				if got := bytes[i*size : (i+1)*size]; !slices.Equal(got, impl.PackItem(f, values)) {
					t.Fatalf("PackAll(%v, %v) = %v, and the item %d of them is %v", f, items, bytes, i, got)
				}
			}
			if got, ok := impl.UnpackAll(f, bytes); !ok || !sameItems(got, items) {
				t.Fatalf("UnpackAll(%v, %v) = %v, %v, not %v", f, bytes, got, ok, items)
			}
		}
	}
}

// valueOf returns the value of bytes, of which the lowest one comes first.
func valueOf(bytes []int) int {
	value := 0
	for _, one := range backward(bytes) {
		value = value*256 + one
	}
	return value
}

func TestP82FieldsAreViews(t *testing.T) {
	for _, f := range manyFormats() {
		for _, many := range slices.Compact(ints(1, min(2, mostItems(f)), mostItems(f))) {
			bytes := itemBytes(f, many)
			items, ok := impl.UnpackAll(f, bytes)
			if !ok || len(items) != many {
				t.Fatalf("UnpackAll(%v, %v) = %v, %v", f, bytes, items, ok)
			}
			for k, size := range f.Sizes {
				v, ok := impl.FieldView(f, k, many)
				if !ok || !slices.Equal(v.Shape, ints(many, size)) {
					t.Fatalf("FieldView(%v, %d, %d) = %v, %v", f, k, many, v, ok)
				}
				got := impl.LoadView(bytes, v)
				if len(got) != many*size {
					t.Fatalf("FieldView(%v, %d, %d) = %v loads %v", f, k, many, v, got)
				}
				for i, values := range items {
					if valueOf(got[i*size:(i+1)*size]) != values[k] {
						t.Fatalf("FieldView(%v, %d, %d) = %v loads %v, but the values are %v", f, k, many, v, got, items)
					}
				}
			}
		}
	}
}

// TestP83FieldsOfAllItemsAreApart goes beyond the items of one memory: the view of a field can have one more than these, whose other fields would be beyond all cells.
func TestP83FieldsOfAllItemsAreApart(t *testing.T) {
	beyond := 0
	for _, f := range manyFormats() {
		for _, many := range ints(1, 2, mostItems(f), mostItems(f)+1) {
			var views []impl.View
			for k := range f.Sizes {
				v, ok := impl.FieldView(f, k, many)
				want, valid := plainFieldView(f, k, many)
				if ok != valid || ok && !sameViews(v, want) || !ok && !isZero(v) {
					t.Fatalf("FieldView(%v, %d, %d) = %v, %v, not %v, %v", f, k, many, v, ok, want, valid)
				}
				if !ok {
					continue
				}
				if many > mostItems(f) {
					beyond++
				}
				if !impl.IsOneToOne(v) || !isOnce(plainCells(v)) {
					t.Fatalf("FieldView(%v, %d, %d) = %v repeats cells", f, k, many, v)
				}
				for _, w := range views {
					if impl.DoOverlap(v, w) || haveCommon(plainCells(v), plainCells(w)) {
						t.Fatalf("fields of %v overlap: %v, %v", f, v, w)
					}
				}
				views = append(views, v)
			}
		}
	}
	if beyond == 0 {
		t.Fatal("no view has more items than a memory")
	}
}

func TestP84SwappedBytesHoldTheSameItems(t *testing.T) {
	for _, f := range manyFormats() {
		other := otherOf(f)
		for _, items := range itemLists(f) {
			// Padding is not 0 here, but it is afterwards.
			bytes := plainPackAll(f, items)
			for x := range bytes {
				if slices.Contains(bytesOwned(f, -1), x%len(plainOwners(f))) {
					bytes[x] = 200
				}
			}
			got := impl.SwapBytes(f, bytes)
			if want := plainPackAll(other, items); !slices.Equal(got, want) {
				t.Fatalf("SwapBytes(%v, %v) = %v, not %v", f, bytes, got, want)
			}
			if back, ok := impl.UnpackAll(other, got); !ok || !sameItems(back, items) {
				t.Fatalf("UnpackAll(%v, %v) = %v, %v, not %v", other, got, back, ok, items)
			}
			if again := impl.SwapBytes(other, got); !slices.Equal(again, plainPackAll(f, items)) {
				t.Fatalf("SwapBytes(%v, %v) = %v", other, got, again)
			}
		}
	}
}
