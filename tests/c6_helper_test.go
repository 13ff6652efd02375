package tests

import (
	"math"
	"slices"
	"sync"
	"testing"

	"loop.example/strideviews/impl"
)

// packedFormat returns a format that is not aligned, with the lowest byte first.
func packedFormat(sizes ...int) impl.Format {
	return impl.Format{Sizes: sizes}
}

// alignedFormat returns a format that is aligned, with the lowest byte first.
func alignedFormat(sizes ...int) impl.Format {
	return impl.Format{Sizes: sizes, Aligned: true}
}

// bigOf returns a format with the highest byte first.
func bigOf(f impl.Format) impl.Format {
	return impl.Format{Sizes: f.Sizes, Big: true, Aligned: f.Aligned}
}

// otherOf returns a format with the other order of bytes.
func otherOf(f impl.Format) impl.Format {
	return impl.Format{Sizes: f.Sizes, Big: !f.Big, Aligned: f.Aligned}
}

// fourKinds returns the formats with some sizes: in both orders of bytes, aligned and not.
func fourKinds(sizes []int) []impl.Format {
	f, g := packedFormat(sizes...), alignedFormat(sizes...)
	return []impl.Format{f, g, bigOf(f), bigOf(g)}
}

// manyFormats returns all valid formats.
var manyFormats = sync.OnceValue(func() []impl.Format {
	var list []impl.Format
	for n := 1; n <= impl.MaxFields; n++ {
		for _, sizes := range tuples(ints(1, 2, 4), n) {
			list = append(list, fourKinds(sizes)...)
		}
	}
	return list
})

// badSizes returns numbers that are no size of a field.
func badSizes() []int {
	return ints(0, 3, 5, 6, 7, 8, 16, -1, -2, -4, 1<<32+1, math.MaxInt, math.MinInt, math.MinInt+1)
}

// badFormats returns formats that are not valid: without fields, with too many, and with one of a size that is none.
func badFormats() []impl.Format {
	list := append(fourKinds(nil), fourKinds(ints())...)
	for _, size := range ints(1, 2, 4) {
		list = append(list, fourKinds(slices.Repeat(ints(size), 6))...)
		list = append(list, fourKinds(slices.Repeat(ints(size), 60))...)
	}
	for _, size := range badSizes() {
		list = append(list, fourKinds(ints(size))...)
		for k := range 5 {
			list = append(list, fourKinds(with(ints(4, 1, 2, 1, 4), k, size))...)
		}
		list = append(list, fourKinds(ints(2, size))...)
		list = append(list, fourKinds(ints(size, 2))...)
	}
	return list
}

// plainOwners returns for each byte of an item of a valid format the index of the field of which it is one, -1 if there is none.
// Bytes are laid one by one.
func plainOwners(f impl.Format) []int {
	var owners []int
	for k, size := range f.Sizes {
		for f.Aligned && len(owners)%size != 0 {
			owners = append(owners, -1)
		}
		owners = append(owners, slices.Repeat(ints(k), size)...)
	}
	for f.Aligned && slices.ContainsFunc(f.Sizes, func(size int) bool { return len(owners)%size != 0 }) {
		owners = append(owners, -1)
	}
	return owners
}

// bytesOwned returns the bytes of an item of a valid format that belong to a field, or with -1 to none, ascending.
func bytesOwned(f impl.Format, k int) []int {
	var list []int
	for x, owner := range plainOwners(f) {
		if owner == k {
			list = append(list, x)
		}
	}
	return list
}

// fieldBytes returns the bytes of a field in an item of a valid format, the lowest one first.
func fieldBytes(f impl.Format, k int) []int {
	if f.Big {
		return backward(bytesOwned(f, k))
	}
	return bytesOwned(f, k)
}

// plainPack returns the bytes of an item of a valid format with valid values.
func plainPack(f impl.Format, values []int) []int {
	item := make([]int, len(plainOwners(f)))
	for k, value := range values {
		for rank, x := range fieldBytes(f, k) {
			item[x] = value >> (8 * rank) & 0xff
		}
	}
	return item
}

// plainUnpack returns the values of an item of a valid format.
func plainUnpack(f impl.Format, item []int) []int {
	values := make([]int, len(f.Sizes))
	for k := range values {
		for rank, x := range fieldBytes(f, k) {
			values[k] |= item[x] << (8 * rank)
		}
	}
	return values
}

// plainPackAll returns the bytes of items of a valid format, one behind the other.
func plainPackAll(f impl.Format, items [][]int) []int {
	var bytes []int
	for _, values := range items {
		bytes = append(bytes, plainPack(f, values)...)
	}
	return bytes
}

// mostItems returns how many items of a valid format can lie in a memory.
func mostItems(f impl.Format) int {
	return 60 / len(plainOwners(f))
}

// topOf returns the greatest value of a field of some size.
func topOf(size int) int {
	return 1<<(8*size) - 1
}

// itemBytes returns the bytes of some items, also those of no field, all different as far as they can be.
func itemBytes(f impl.Format, many int) []int {
	bytes := make([]int, many*len(plainOwners(f)))
	for x := range bytes {
		bytes[x] = (251 + 89*x) % 256
	}
	return bytes
}

// itemValues returns values for an item of a valid format: of different bytes, the least and the greatest ones, those next to a full byte, and one field that is not 0.
func itemValues(f impl.Format) [][]int {
	n := len(f.Sizes)
	list := [][]int{plainUnpack(f, itemBytes(f, 1)), make([]int, n)}
	top := make([]int, n)
	for k, size := range f.Sizes {
		top[k] = topOf(size)
	}
	list = append(list, top)
	for k, size := range f.Sizes {
		list = append(list, with(make([]int, n), k, topOf(size)), with(top, k, topOf(size)-1), with(make([]int, n), k, 1), with(make([]int, n), k, min(256, topOf(size))), with(make([]int, n), k, topOf(size)/2+1))
	}
	return list
}

// badItemValues returns lists that are no values of an item of a valid format: too many, too few, or with one that its field cannot have.
func badItemValues(f impl.Format) [][]int {
	n := len(f.Sizes)
	list := [][]int{nil, make([]int, n-1), make([]int, n+1), make([]int, n+60)}
	for k, size := range f.Sizes {
		for _, value := range []int{-1, topOf(size) + 1, -topOf(size), topOf(size) + 2, 1 << 32, math.MaxInt, math.MinInt} {
			list = append(list, with(make([]int, n), k, value))
		}
	}
	return list
}

// itemLists returns lists of items of a valid format: without any, with a few, and with as many as a memory can hold.
func itemLists(f impl.Format) [][][]int {
	list := [][][]int{nil}
	values := itemValues(f)
	for _, many := range slices.Compact(slices.Sorted(slices.Values(ints(1, min(2, mostItems(f)), mostItems(f))))) {
		var items [][]int
		for i := range many {
			items = append(items, values[i%len(values)])
		}
		list = append(list, items)
	}
	return list
}

// sameItems reports whether two lists of items are equal.
func sameItems(a [][]int, b [][]int) bool {
	return slices.EqualFunc(a, b, slices.Equal[[]int])
}

// checkNoItems fails if a result is not nil and false.
func checkNoItems(t *testing.T, f impl.Format, bytes []int) {
	t.Helper()
	if got, ok := impl.UnpackAll(f, bytes); ok || len(got) != 0 {
		t.Fatalf("UnpackAll(%v, %v) = %v, %v", f, bytes, got, ok)
	}
	if got := impl.SwapBytes(f, bytes); len(got) != 0 {
		t.Fatalf("SwapBytes(%v, %v) = %v", f, bytes, got)
	}
}

// checkNoValues fails if a result is not nil and false.
func checkNoValues(t *testing.T, f impl.Format, bytes []int) {
	t.Helper()
	if got, ok := impl.UnpackItem(f, bytes); ok || len(got) != 0 {
		t.Fatalf("UnpackItem(%v, %v) = %v, %v", f, bytes, got, ok)
	}
}

// plainFieldView returns the view of a field of many items of a valid format, and whether it is valid.
func plainFieldView(f impl.Format, k int, many int) (impl.View, bool) {
	stride := 1
	if f.Big {
		stride = -1
	}
	v := vw(fieldBytes(f, k)[0], ints(many, f.Sizes[k]), len(plainOwners(f)), stride)
	return v, plainValid(v)
}
