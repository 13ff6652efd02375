package tests

import (
	"slices"
	"testing"

	"loop.example/strideviews/impl"
)

// TestP60CellsCanBeLeftOut needs memories that are not valid, too: one is not made valid by cells that are left out ahead of the bad one.
func TestP60CellsCanBeLeftOut(t *testing.T) {
	for _, mem := range manyMemories() {
		for n := len(mem); n >= 0; n-- {
			if !impl.ValidMemory(mem[:n]) {
				t.Fatalf("%v is no memory", mem[:n])
			}
		}
	}
	for _, mem := range badMemories() {
		for n := range len(mem) + 1 {
			want := n <= 60 && !slices.ContainsFunc(mem[:n], func(value int) bool { return value < 0 || value > 255 })
			if got := impl.ValidMemory(mem[:n]); got != want {
				t.Fatalf("ValidMemory(%v) = %v", mem[:n], got)
			}
		}
	}
}

func TestP61ValuesAreAtCells(t *testing.T) {
	rows := map[bool]int{}
	for mem, v := range fitting(memoryViews()) {
		got, cells := impl.LoadView(mem, v), impl.OffsetsOf(v)
		if want := chosen(mem, plainCells(v)); !slices.Equal(got, want) {
			t.Fatalf("LoadView(%v, %v) = %v, not %v", mem, v, got, want)
		}
		for k, value := range got {
			if value != mem[cells[k]] {
				t.Fatalf("LoadView(%v, %v) = %v, but OffsetsOf are %v", mem, v, got, cells)
			}
		}
		if n := len(v.Shape); n > 1 && v.Shape[n-1] > 1 && len(got) > 0 {
			rows[v.Strides[n-1] == 1]++
		}
	}
	if rows[true] == 0 || rows[false] == 0 {
		t.Fatalf("views have dense rows or not: %v", rows)
	}
}

// checkOthers fails if a cell that is none of some cells has another value after a change.
func checkOthers(t *testing.T, mem []int, after []int, cells []int, what string, v impl.View) {
	t.Helper()
	for x := range mem {
		if !slices.Contains(cells, x) && after[x] != mem[x] {
			t.Fatalf("%s of %v changed the cell %d from %d to %d", what, v, x, mem[x], after[x])
		}
	}
}

func TestP62WhatIsStoredIsLoaded(t *testing.T) {
	some := 0
	for mem, v := range fitting(memoryViews()) {
		cells, values := plainCells(v), valuesFor(v)
		got, ok := impl.StoreView(mem, v, values)
		checkMemory(t, got, ok, plainStored(mem, cells, values), "StoreView", v)
		checkOthers(t, mem, got, cells, "StoreView", v)
		if !isOnce(cells) {
			continue
		}
		if back := impl.LoadView(got, v); !slices.Equal(back, values) {
			t.Fatalf("%v were stored in %v, and %v loaded", values, v, back)
		}
		if len(cells) > 1 && len(cells) < len(mem) {
			some++
		}
	}
	if some == 0 {
		t.Fatal("no values were stored in just some cells")
	}
}

// TestP63TheLastValueOfACellStays goes back from the last rank to find that of each cell.
func TestP63TheLastValueOfACellStays(t *testing.T) {
	repeats := 0
	for mem, v := range fitting(memoryViews()) {
		cells, values := plainCells(v), valuesFor(v)
		got, ok := impl.StoreView(mem, v, values)
		if !ok {
			t.Fatalf("StoreView(%v, %v, %v) = %v, %v", mem, v, values, got, ok)
		}
		var met []int
		for k := len(cells) - 1; k >= 0; k-- {
			if slices.Contains(met, cells[k]) {
				repeats++
				continue
			}
			met = append(met, cells[k])
			if got[cells[k]] != values[k] {
				t.Fatalf("StoreView(%v, %v, %v) = %v, but the last value of the cell %d is %d", mem, v, values, got, cells[k], values[k])
			}
		}
	}
	if repeats == 0 {
		t.Fatal("no cell was stored twice")
	}
}

func TestP64FilledViewsHoldOneValue(t *testing.T) {
	for mem, v := range fitting(memoryViews()) {
		cells := plainCells(v)
		for _, value := range []int{0, 1, 200, 255} {
			got, ok := impl.FillView(mem, v, value)
			checkMemory(t, got, ok, plainStored(mem, cells, slices.Repeat(ints(value), len(cells))), "FillView", v)
			checkOthers(t, mem, got, cells, "FillView", v)
			for _, x := range impl.LoadView(got, v) {
				if x != value {
					t.Fatalf("%v was filled with %d, and has %d", v, value, x)
				}
			}
		}
	}
}

func TestP65CopiesAreAsIfAllWasLoadedFirst(t *testing.T) {
	meet := 0
	for _, p := range copyPairs() {
		mem := p.memoryFor()
		there := impl.LoadView(mem, p.from)
		got, ok := impl.CopyView(mem, p.to, p.from)
		checkMemory(t, got, ok, plainStored(mem, p.toCells, chosen(mem, p.fromCells)), "CopyView", p.to, p.from)
		stored, ok := impl.StoreView(mem, p.to, there)
		checkMemory(t, stored, ok, got, "StoreView of LoadView", p.to, p.from)
		if !isOnce(p.toCells) {
			continue
		}
		if back := impl.LoadView(got, p.to); !slices.Equal(back, there) {
			t.Fatalf("%v were in %v, and %v are in %v", there, p.from, back, p.to)
		}
		if haveCommon(p.toCells, p.fromCells) && !slices.Equal(p.toCells, p.fromCells) {
			meet++
		}
	}
	if meet == 0 {
		t.Fatal("no two views overlap")
	}
}

func TestP66ForwardCopiesAreRightWhereTheyMay(t *testing.T) {
	once := map[bool]int{}
	for _, p := range copyPairs() {
		mem := p.memoryFor()
		got, ok := impl.CopyForward(mem, p.to, p.from)
		checkMemory(t, got, ok, plainCarried(mem, p.toCells, p.fromCells, firstNumbers(len(p.toCells))), "CopyForward", p.to, p.from)
		if impl.WayOf(p.to, p.from) != impl.WyForward {
			continue
		}
		right, ok := impl.CopyView(mem, p.to, p.from)
		checkMemory(t, got, ok, right, "CopyForward", p.to, p.from)
		if haveCommon(p.toCells, p.fromCells) && len(p.toCells) > 1 {
			once[isOnce(p.toCells)]++
		}
	}
	if once[true] == 0 || once[false] == 0 {
		t.Fatalf("views to which overlapping ones are copied forward are one to one or not: %v", once)
	}
}

func TestP67ForwardCopiesAreWrongWhereTheyMayNot(t *testing.T) {
	right := map[bool]int{}
	for _, p := range copyPairs() {
		way := impl.WayOf(p.to, p.from)
		if way != plainWay(p.toCells, p.fromCells) {
			t.Fatalf("WayOf(%v, %v) = %d, not %d", p.to, p.from, way, plainWay(p.toCells, p.fromCells))
		}
		if !p.once() {
			continue
		}
		mem := p.memoryFor()
		one, _ := impl.CopyForward(mem, p.to, p.from)
		all, _ := impl.CopyView(mem, p.to, p.from)
		if slices.Equal(one, all) != (way == impl.WyForward) {
			t.Fatalf("WayOf(%v, %v) = %d, but CopyForward = %v, and CopyView = %v", p.to, p.from, way, one, all)
		}
		if haveCommon(p.toCells, p.fromCells) {
			right[way == impl.WyForward]++
		}
	}
	if right[true] == 0 || right[false] == 0 {
		t.Fatalf("views that overlap can be copied forward or not: %v", right)
	}
}

// TestP68BackwardCopiesAreRightWhereTheyMay needs repeated cells, too: to these no copy is backward.
func TestP68BackwardCopiesAreRightWhereTheyMay(t *testing.T) {
	ways := map[int]int{}
	for _, p := range copyPairs() {
		mem := p.memoryFor()
		got, ok := impl.CopyBackward(mem, p.to, p.from)
		checkMemory(t, got, ok, plainCarried(mem, p.toCells, p.fromCells, backward(firstNumbers(len(p.toCells)))), "CopyBackward", p.to, p.from)
		if len(p.toCells) > 0 {
			flipped, ok := impl.CopyForward(mem, turnedAround(p.to), turnedAround(p.from))
			checkMemory(t, flipped, ok, got, "CopyForward of the views turned around", p.to, p.from)
		}
		if to, ok := impl.FlipDim(p.to, 0); ok && len(p.to.Shape) == 1 {
			from, _ := impl.FlipDim(p.from, 0)
			flipped, ok := impl.CopyForward(mem, to, from)
			checkMemory(t, flipped, ok, got, "CopyForward of the flipped lines", to, from)
		}
		way := impl.WayOf(p.to, p.from)
		ways[way]++
		if way != impl.WyBackward {
			continue
		}
		right, ok := impl.CopyView(mem, p.to, p.from)
		checkMemory(t, got, ok, right, "CopyBackward", p.to, p.from)
		if !isOnce(p.toCells) {
			t.Fatalf("WayOf(%v, %v) = %d to repeated cells", p.to, p.from, way)
		}
	}
	if ways[impl.WyForward] == 0 || ways[impl.WyBackward] == 0 || ways[impl.WyBuffer] == 0 || len(ways) != 3 {
		t.Fatalf("WayOf tells %v", ways)
	}
}

func TestP69ViewsThatDoNotOverlapAreCopiedForward(t *testing.T) {
	apart := map[bool]int{}
	for _, p := range copyPairs() {
		if haveCommon(p.toCells, p.fromCells) {
			continue
		}
		if way := impl.WayOf(p.to, p.from); way != impl.WyForward {
			t.Fatalf("WayOf(%v, %v) = %d without a common cell", p.to, p.from, way)
		}
		if len(p.toCells) > 0 {
			apart[isOnce(p.toCells)]++
		}
	}
	if apart[true] == 0 || apart[false] == 0 {
		t.Fatalf("views without a common cell are one to one or not: %v", apart)
	}
	once := map[bool]int{}
	for _, v := range memoryViews() {
		cells := plainCells(v)
		way := impl.WayOf(v, v)
		// A repeated cell is that of a later index and that of an earlier one.
		if want := isOnce(cells); want && way != impl.WyForward || !want && way != impl.WyBuffer {
			t.Fatalf("WayOf(%v, %v) = %d", v, v, way)
		}
		once[isOnce(cells)]++
	}
	if once[true] == 0 || once[false] == 0 {
		t.Fatalf("views are one to one or not: %v", once)
	}
}

// TestP70LinesAreCopiedAway goes through lines with one stride of at least 1, the shortest ones and those that fill the memory included.
func TestP70LinesAreCopiedAway(t *testing.T) {
	meet := map[bool]int{}
	for stride := 1; stride <= 60; stride++ {
		for extent := 0; extent <= 60 && (extent-1)*stride < 60; extent++ {
			reach := max(extent-1, 0) * stride
			for low := 0; low+reach < 60; low += 1 + extent%3 {
				for high := low + 1; high+reach < 60; high++ {
					a, b := vw(low, ints(extent), stride), vw(high, ints(extent), stride)
					if way := impl.WayOf(a, b); way != impl.WyForward {
						t.Fatalf("WayOf(%v, %v) = %d", a, b, way)
					}
					// The first cell of the one with the higher base is one of the other one, or none is.
					meets := (high-low)%stride == 0 && high-low <= reach && extent > 0
					way := impl.WayOf(b, a)
					if meets && way != impl.WyBackward || !meets && way != impl.WyForward {
						t.Fatalf("WayOf(%v, %v) = %d", b, a, way)
					}
					meet[meets]++
				}
			}
		}
	}
	if meet[true] == 0 || meet[false] == 0 {
		t.Fatalf("lines meet or not: %v", meet)
	}
}

func TestP71AdditionsAreAllDone(t *testing.T) {
	repeats := 0
	for mem, v := range fitting(memoryViews()) {
		cells := plainCells(v)
		got, ok := impl.AddView(mem, v, make([]int, len(cells)))
		checkMemory(t, got, ok, mem, "AddView of 0", v)
		for _, values := range [][]int{valuesFor(v), slices.Repeat(ints(255), len(cells)), slices.Repeat(ints(1), len(cells))} {
			got, ok := impl.AddView(mem, v, values)
			checkMemory(t, got, ok, plainAdded(mem, cells, values), "AddView", v)
			checkOthers(t, mem, got, cells, "AddView", v)
		}
		if !isOnce(cells) {
			repeats++
		}
	}
	if repeats == 0 {
		t.Fatal("no view repeats cells")
	}
}

func TestP72SwappedTwiceIsAsBefore(t *testing.T) {
	swapped := map[bool]int{}
	for _, p := range copyPairs() {
		mem := p.memoryFor()
		got, ok := impl.SwapViews(mem, p.to, p.from)
		if want := p.once() && !haveCommon(p.toCells, p.fromCells); !want {
			checkNoMemory(t, got, ok, "SwapViews", p.to, p.from)
			swapped[false]++
			continue
		}
		ofTo, ofFrom := chosen(mem, p.toCells), chosen(mem, p.fromCells)
		checkMemory(t, got, ok, plainStored(plainStored(mem, p.toCells, ofFrom), p.fromCells, ofTo), "SwapViews", p.to, p.from)
		if to, from := impl.LoadView(got, p.to), impl.LoadView(got, p.from); !slices.Equal(to, ofFrom) || !slices.Equal(from, ofTo) {
			t.Fatalf("%v and %v had %v and %v, and have %v and %v", p.to, p.from, ofTo, ofFrom, to, from)
		}
		again, ok := impl.SwapViews(got, p.to, p.from)
		checkMemory(t, again, ok, mem, "SwapViews again", p.to, p.from)
		if len(ofTo) > 1 {
			swapped[true]++
		}
	}
	if swapped[true] == 0 || swapped[false] == 0 {
		t.Fatalf("views can be exchanged or not: %v", swapped)
	}
}

func TestP73ChangesAreToldBothWays(t *testing.T) {
	all := manyMemories()
	for mem, v := range fitting(someOf(memoryViews(), 5)) {
		after, _ := impl.FillView(mem, v, 11)
		all = append(all, after)
	}
	all = append(someOf(all, 7), manyMemories()...)
	some := 0
	for _, a := range all {
		if got := impl.ChangedBy(a, slices.Clone(a)); len(got) != 0 {
			t.Fatalf("ChangedBy(%v) and itself = %v", a, got)
		}
		for _, b := range all {
			got, other := impl.ChangedBy(a, b), impl.ChangedBy(b, a)
			want := slices.DeleteFunc(firstNumbers(min(len(a), len(b))), func(x int) bool { return len(a) != len(b) || a[x] == b[x] })
			if !slices.Equal(got, want) || !slices.Equal(other, want) {
				t.Fatalf("ChangedBy(%v, %v) = %v, and the other way round %v, not %v", a, b, got, other, want)
			}
			if len(got) > 0 && len(got) < len(a) {
				some++
			}
		}
	}
	if some == 0 {
		t.Fatal("no two memories have different values in just some cells")
	}
}

func TestP74SumsAreOfValues(t *testing.T) {
	for mem, v := range fitting(memoryViews()) {
		want := 0
		for _, cell := range plainCells(v) {
			want += mem[cell]
		}
		loaded := 0
		for _, value := range impl.LoadView(mem, v) {
			loaded += value
		}
		if got := impl.SumView(mem, v); got != want || got != loaded {
			t.Fatalf("SumView(%v, %v) = %d, not %d, and LoadView has %d", mem, v, got, want, loaded)
		}
		for _, order := range manyOrders(len(v.Shape)) {
			other, ok := impl.PermuteDims(v, order)
			if got := impl.SumView(mem, other); !ok || got != want {
				t.Fatalf("SumView(%v, %v) = %d, but of its dimensions in the order %v it is %d", mem, v, want, order, got)
			}
		}
	}
}
