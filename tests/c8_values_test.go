package tests

import (
	"slices"
	"strings"
	"testing"

	"loop.example/strideviews/impl"
)

func TestLimitsOfBuffers(t *testing.T) {
	if impl.MaxExports != 8 || impl.MaxNumber != 100 || impl.MaxActs != 60 {
		t.Errorf("the limits are %d, %d, %d", impl.MaxExports, impl.MaxNumber, impl.MaxActs)
	}
	for kind, got := range []int{impl.AcSize, impl.AcView, impl.AcPart, impl.AcFlip, impl.AcFill, impl.AcCopy, impl.AcLoad, impl.AcFree} {
		if got != kind {
			t.Errorf("the kind %d of an act is %d", kind, got)
		}
	}
}

// line6 is a view of six cells, one behind the other.
func line6() impl.View {
	return vw(0, ints(6), 1)
}

func TestValidBufferValues(t *testing.T) {
	line, none := line6(), vw(60, ints(0), 60)
	for _, b := range []impl.Buffer{
		{}, {Cells: ints()}, {Cells: ints(255)}, bufferOf(60), bufferOf(6, shown(-1, line)), bufferOf(6, hidden(-1, line)), bufferOf(6, shown(-1, line), shown(0, line)), bufferOf(6, shown(-1, line), hidden(0, line)), bufferOf(6, hidden(-1, line), hidden(0, line)),
		// A part need not have the cells of its parent to be one of a valid buffer.
		bufferOf(6, shown(-1, vw(0, nil)), shown(0, line)), bufferOf(0, shown(-1, none), shown(0, none)), bufferOf(60, slices.Repeat([]impl.Export{shown(-1, line)}, 8)...),
		// What is not open need not fit.
		bufferOf(5, hidden(-1, line)), bufferOf(0, hidden(-1, line), hidden(0, vw(59, nil))), bufferOf(1, shown(-1, vw(0, nil)), hidden(0, line)),
	} {
		if !impl.ValidBuffer(b) {
			t.Errorf("%v is no buffer", b)
		}
	}
	for _, b := range badBuffers() {
		if plainBuffer(b) || impl.ValidBuffer(b) {
			t.Errorf("%v is a buffer", b)
		}
	}
}

// TestBuffersThatAreNotValid checks the fixed results of all functions.
func TestBuffersThatAreNotValid(t *testing.T) {
	for _, b := range badBuffers() {
		got, ok := impl.ExportView(b, vw(0, ints(0), 1))
		checkNoBuffer(t, "ExportView", b, got, ok)
		got, ok = impl.ResizeBuffer(b, len(b.Cells))
		checkNoBuffer(t, "ResizeBuffer", b, got, ok)
		if open := impl.OpenOf(b); len(open) != 0 {
			t.Fatalf("OpenOf(%v) = %v", b, open)
		}
		for id := -1; id <= len(b.Exports); id++ {
			got, ok = impl.ExportPart(b, id, 0, open(1))
			checkNoBuffer(t, "ExportPart", b, got, ok)
			got, ok = impl.ReleaseExport(b, id)
			checkNoBuffer(t, "ReleaseExport", b, got, ok)
			got, ok = impl.FillExport(b, id, 0)
			checkNoBuffer(t, "FillExport", b, got, ok)
			got, ok = impl.CopyExport(b, id, id)
			checkNoBuffer(t, "CopyExport", b, got, ok)
			if kids, values := impl.KidsOf(b, id), impl.LoadExport(b, id); len(kids) != 0 || len(values) != 0 {
				t.Fatalf("%v, %d: KidsOf = %v, LoadExport = %v", b, id, kids, values)
			}
		}
		for _, a := range someOf(actsFor(), 11) {
			got, answer := impl.ApplyAct(b, a)
			checkNoBuffer(t, "ApplyAct", b, got, answer != "")
		}
	}
}

func TestExportViewValues(t *testing.T) {
	b := bufferOf(6, shown(-1, line6()), hidden(0, vw(59, nil)))
	for _, v := range []impl.View{line6(), vw(5, ints(6), -1), vw(0, ints(2, 3), 3, 1), vw(0, ints(2, 3), 1, 1), vw(5, nil), vw(5, ints(1), 60), vw(0, ints(60), 0), vw(60, ints(0), -60), vw(60, ints(3, 0), 60, 60)} {
		got, ok := impl.ExportView(b, v)
		checkBuffer(t, "ExportView", v, got, ok, withExport(b, 2, shown(-1, v)))
	}
	for _, v := range append(badViews(), vw(6, nil), vw(0, ints(7), 1), vw(6, ints(1), 0), vw(0, ints(2, 3), 4, 1), vw(6, ints(7), -1)) {
		got, ok := impl.ExportView(b, v)
		checkNoBuffer(t, "ExportView", v, got, ok)
	}
	empty, ok := impl.ExportView(impl.NewBuffer(0), vw(60, ints(0), 1))
	checkBuffer(t, "ExportView", "nothing", empty, ok, bufferOf(0, shown(-1, vw(60, ints(0), 1))))
	got, ok := impl.ExportView(impl.NewBuffer(0), vw(0, nil))
	checkNoBuffer(t, "ExportView", "nothing", got, ok)
}

// TestExportsCountWhenTheyAreClosed checks that there is no room for more than eight exports, open or not.
func TestExportsCountWhenTheyAreClosed(t *testing.T) {
	for _, b := range fullBuffers() {
		exported, ok := impl.ExportView(b, vw(0, ints(0), 1))
		if n := len(b.Exports); n == 7 {
			checkBuffer(t, "ExportView", b, exported, ok, withExport(b, n, shown(-1, vw(0, ints(0), 1))))
		} else {
			checkNoBuffer(t, "ExportView", b, exported, ok)
		}
		for _, id := range plainOpen(b) {
			part, ok := impl.ExportPart(b, id, 0, to(0, 1))
			if ok != (len(b.Exports) == 7) {
				t.Errorf("ExportPart(%v, %d) = %v, %v", b, id, part, ok)
			}
		}
	}
}

func TestExportPartValues(t *testing.T) {
	b := bufferOf(12, shown(-1, vw(0, ints(3, 4), 4, 1)), hidden(0, vw(0, ints(2), 1)), shown(-1, vw(60, ints(0), 60)), shown(-1, vw(7, nil)), shown(0, vw(10, ints(4), -3)))
	for _, c := range []struct {
		id, d int
		s     impl.Slice
		want  impl.View
	}{
		{0, 0, open(1), vw(0, ints(3, 4), 4, 1)}, {0, 0, open(-1), vw(8, ints(3, 4), -4, 1)}, {0, 1, open(-1), vw(3, ints(3, 4), 4, -1)}, {0, 1, open(2), vw(0, ints(3, 2), 4, 2)}, {0, 0, between(1, 2, 1), vw(4, ints(1, 4), 0, 1)}, {0, 1, from(-1, 1), vw(3, ints(3, 1), 4, 0)},
		{4, 0, from(1, 2), vw(7, ints(2), -6)}, {4, 0, open(-1), vw(1, ints(4), 3)},
		// Parts without indices.
		{0, 0, to(0, 1), vw(0, ints(0, 4), 0, 0)}, {0, 1, between(3, 1, 1), vw(0, ints(3, 0), 0, 0)}, {2, 0, open(1), vw(0, ints(0), 0)}, {2, 0, open(-1), vw(0, ints(0), 0)}, {4, 0, from(100, 200), vw(0, ints(0), 0)},
	} {
		got, ok := impl.ExportPart(b, c.id, c.d, c.s)
		checkBuffer(t, "ExportPart", c, got, ok, withExport(b, 5, shown(c.id, c.want)))
	}
	for id, dims := range ints(2, 1, 1, 0, 1) {
		for _, d := range badDims(dims) {
			got, ok := impl.ExportPart(b, id, d, open(1))
			checkNoBuffer(t, "ExportPart", id, got, ok)
		}
		for _, s := range badSlices() {
			got, ok := impl.ExportPart(b, id, 0, s)
			checkNoBuffer(t, "ExportPart", id, got, ok)
		}
	}
	for _, id := range append(badIds(5), -1, 1) {
		got, ok := impl.ExportPart(b, id, 0, open(1))
		checkNoBuffer(t, "ExportPart", id, got, ok)
	}
}

// TestExportsThatAreNotThere checks the fixed results for indices of no exports, and of those that are not open.
func TestExportsThatAreNotThere(t *testing.T) {
	for _, b := range append(someOf(manyBuffers(), 5), fullBuffers()...) {
		closed := slices.DeleteFunc(firstNumbers(len(b.Exports)), func(id int) bool { return b.Exports[id].Open })
		for _, id := range slices.Concat(badIds(len(b.Exports)), closed, ints(-1)) {
			got, ok := impl.ReleaseExport(b, id)
			checkNoBuffer(t, "ReleaseExport", b, got, ok)
			got, ok = impl.FillExport(b, id, 1)
			checkNoBuffer(t, "FillExport", b, got, ok)
			for other := range b.Exports {
				got, ok = impl.CopyExport(b, id, other)
				checkNoBuffer(t, "CopyExport", b, got, ok)
				got, ok = impl.CopyExport(b, other, id)
				checkNoBuffer(t, "CopyExport", b, got, ok)
			}
			if values := impl.LoadExport(b, id); len(values) != 0 {
				t.Errorf("LoadExport(%v, %d) = %v", b, id, values)
			}
		}
		for _, id := range badIds(len(b.Exports)) {
			if kids := impl.KidsOf(b, id); len(kids) != 0 {
				t.Errorf("KidsOf(%v, %d) = %v", b, id, kids)
			}
		}
	}
}

// TestPartsThatAreStillOpen releases exports while parts of them, and parts of these, are open.
func TestPartsThatAreStillOpen(t *testing.T) {
	line := line6()
	b := bufferOf(6, shown(-1, line), shown(0, line), shown(1, line), shown(0, line), hidden(3, line))
	for _, c := range []struct {
		order, refused []int
	}{
		{ints(0, 1, 2, 3, 4, 1, 0), ints(0, 1, 4)}, {ints(3, 0, 2, 0, 1, 0), ints(0, 0)}, {ints(2, 2, 1, 1, 3, 3, 0, 0), ints(2, 1, 3, 0)}, {ints(-1, 5, 0), ints(-1, 5, 0)},
	} {
		var refused []int
		after := b
		for _, id := range c.order {
			got, ok := impl.ReleaseExport(after, id)
			if !ok {
				checkNoBuffer(t, "ReleaseExport", after, got, ok)
				refused = append(refused, id)
				continue
			}
			checkBuffer(t, "ReleaseExport", after, got, ok, withOpen(after, id, false))
			after = got
		}
		if !slices.Equal(refused, c.refused) {
			t.Errorf("of %v, %v were not released", c.order, refused)
		}
	}
	for id, want := range [][]int{{1, 3}, {2}, nil, nil, nil} {
		if kids := impl.KidsOf(b, id); !slices.Equal(kids, want) {
			t.Errorf("KidsOf(%v, %d) = %v", b, id, kids)
		}
	}
	if kids, open := impl.KidsOf(b, -1), impl.OpenOf(b); !slices.Equal(kids, ints(0)) || !slices.Equal(open, ints(0, 1, 2, 3)) {
		t.Errorf("of %v, %v are open, and %v have no parent", b, open, kids)
	}
}

// TestSizesThatStay checks that even an open export without cells, far down the tree, keeps the size, and that just closed ones do not.
func TestSizesThatStay(t *testing.T) {
	line, none := line6(), vw(60, ints(0), 60)
	for _, b := range []impl.Buffer{bufferOf(6, shown(-1, line)), bufferOf(6, shown(-1, vw(0, nil))), bufferOf(6, shown(-1, none)), bufferOf(0, shown(-1, none)), bufferOf(6, hidden(-1, line), shown(-1, none), hidden(1, line)), bufferOf(6, shown(-1, line), shown(0, none))} {
		for n := range 61 {
			got, ok := impl.ResizeBuffer(b, n)
			checkNoBuffer(t, "ResizeBuffer", b, got, ok)
		}
	}
	for _, c := range []struct {
		b    impl.Buffer
		n    int
		want []int
	}{
		{impl.Buffer{Cells: ints(1, 2, 3)}, 3, ints(1, 2, 3)}, {impl.Buffer{Cells: ints(1, 2, 3)}, 2, ints(1, 2)}, {impl.Buffer{Cells: ints(1, 2, 3)}, 5, ints(1, 2, 3, 0, 0)}, {impl.Buffer{Cells: ints(1, 2, 3)}, 0, nil}, {impl.Buffer{}, 0, nil}, {impl.Buffer{}, 2, ints(0, 0)}, {impl.Buffer{}, 60, make([]int, 60)},
		{bufferOf(6, hidden(-1, line), hidden(0, line)), 1, ints(11)}, {bufferOf(6, hidden(-1, none)), 0, nil},
	} {
		got, ok := impl.ResizeBuffer(c.b, c.n)
		checkBuffer(t, "ResizeBuffer", c, got, ok, withCells(c.b, c.want))
	}
}

func TestFillAndCopyExportValues(t *testing.T) {
	b := impl.Buffer{Cells: firstNumbers(8), Exports: []impl.Export{shown(-1, vw(0, ints(4), 1)), shown(-1, vw(2, ints(4), 1)), shown(0, vw(3, ints(4), -1)), shown(-1, vw(7, ints(2, 2), -1, -2)), shown(-1, vw(5, ints(4), 0)), hidden(-1, vw(0, ints(4), 1)), shown(-1, vw(60, ints(0), 1)), shown(6, vw(0, ints(0), 0))}}
	for _, c := range []struct {
		id   int
		want []int
	}{
		{0, ints(9, 9, 9, 9, 4, 5, 6, 7)}, {1, ints(0, 1, 9, 9, 9, 9, 6, 7)}, {2, ints(9, 9, 9, 9, 4, 5, 6, 7)}, {3, ints(0, 1, 2, 3, 9, 9, 9, 9)}, {4, ints(0, 1, 2, 3, 4, 9, 6, 7)}, {6, firstNumbers(8)}, {7, firstNumbers(8)},
	} {
		got, ok := impl.FillExport(b, c.id, 9)
		checkBuffer(t, "FillExport", c, got, ok, withCells(b, c.want))
		for _, bad := range ints(-1, 256, 1<<32) {
			got, ok := impl.FillExport(b, c.id, bad)
			checkNoBuffer(t, "FillExport", c, got, ok)
		}
	}
	for _, c := range []struct {
		to, from int
		want     []int
	}{
		{0, 1, ints(2, 3, 4, 5, 4, 5, 6, 7)}, {1, 0, ints(0, 1, 0, 1, 2, 3, 6, 7)}, {0, 2, ints(3, 2, 1, 0, 4, 5, 6, 7)}, {2, 0, ints(3, 2, 1, 0, 4, 5, 6, 7)}, {1, 2, ints(0, 1, 3, 2, 1, 0, 6, 7)}, {0, 0, firstNumbers(8)}, {3, 3, firstNumbers(8)}, {6, 7, firstNumbers(8)}, {7, 6, firstNumbers(8)},
		// All values of an export to one cell, of which the last one stays, and the value of one cell to all of an export.
		{4, 0, ints(0, 1, 2, 3, 4, 3, 6, 7)}, {4, 2, ints(0, 1, 2, 3, 4, 0, 6, 7)}, {0, 4, ints(5, 5, 5, 5, 4, 5, 6, 7)}, {1, 4, ints(0, 1, 5, 5, 5, 5, 6, 7)},
	} {
		got, ok := impl.CopyExport(b, c.to, c.from)
		checkBuffer(t, "CopyExport", c, got, ok, withCells(b, c.want))
	}
	for _, c := range [][2]int{{0, 3}, {3, 0}, {0, 6}, {7, 1}, {0, 5}, {5, 0}, {5, 5}, {0, 8}, {-1, 0}} {
		got, ok := impl.CopyExport(b, c[0], c[1])
		checkNoBuffer(t, "CopyExport", c, got, ok)
	}
}

func TestFormatAndParseActValues(t *testing.T) {
	for _, c := range []struct {
		a impl.Act
		s string
	}{
		{act(impl.AcSize, 0), "size 0"}, {act(impl.AcSize, 100), "size 100"}, {act(impl.AcSize, -100), "size -100"}, {act(impl.AcView, 0, 5, -2), "view 0 5 -2"}, {act(impl.AcPart, 1, -1, 0, 10), "part 1 -1 0 10"}, {act(impl.AcFlip, 7), "flip 7"}, {act(impl.AcFill, 0, 100), "fill 0 100"}, {act(impl.AcCopy, 1, 0), "copy 1 0"}, {act(impl.AcLoad, -1), "load -1"}, {act(impl.AcFree, 99), "free 99"},
	} {
		if got := impl.FormatAct(c.a); got != c.s {
			t.Errorf("FormatAct(%v) = %q, not %q", c.a, got, c.s)
		}
		if got, ok := impl.ParseAct(c.s); !ok || !sameActs([]impl.Act{got}, []impl.Act{c.a}) {
			t.Errorf("ParseAct(%q) = %v, %v, not %v", c.s, got, ok, c.a)
		}
	}
	for _, a := range badActs() {
		if got := impl.FormatAct(a); got != "" {
			t.Errorf("FormatAct(%v) = %q", a, got)
		}
	}
	for _, s := range badLines() {
		if got, ok := impl.ParseAct(s); ok || got.Kind != 0 || len(got.Nums) != 0 {
			t.Errorf("ParseAct(%q) = %v, %v", s, got, ok)
		}
	}
}

func TestActsThatAreNotValid(t *testing.T) {
	for _, b := range append(someOf(manyBuffers(), 31), impl.Buffer{}) {
		for _, a := range badActs() {
			got, answer := impl.ApplyAct(b, a)
			checkNoBuffer(t, "ApplyAct", []any{b, a}, got, answer != "")
		}
	}
}

func TestActsInValues(t *testing.T) {
	for _, c := range []struct {
		s    string
		want []impl.Act
	}{
		{"", nil}, {"\n", nil}, {"size 5", nil}, {"size 5\n", []impl.Act{act(0, 5)}}, {"size 5\nload 0", []impl.Act{act(0, 5)}}, {"size 5\nload 0\n", []impl.Act{act(0, 5), act(6, 0)}}, {"size 5\n\nload 0\n", []impl.Act{act(0, 5)}}, {"\nsize 5\n", nil}, {"size 5\nwhat\nload 0\n", []impl.Act{act(0, 5)}}, {"what\nsize 5\n", nil}, {"size 5\r\n", nil}, {"size 5\rload 0\n", nil}, {"size 5 \nload 0\n", nil},
		{strings.Repeat("free 1\n", 60), slices.Repeat([]impl.Act{act(7, 1)}, 60)}, {strings.Repeat("free 1\n", 61), slices.Repeat([]impl.Act{act(7, 1)}, 60)}, {strings.Repeat("free 1\n", 600), slices.Repeat([]impl.Act{act(7, 1)}, 60)}, {strings.Repeat("free 1\n", 60) + "what", slices.Repeat([]impl.Act{act(7, 1)}, 60)}, {strings.Repeat("free 1\n", 59) + "what\nfree 1\n", slices.Repeat([]impl.Act{act(7, 1)}, 59)}, {strings.Repeat("free 1\n", 59) + "free 1", slices.Repeat([]impl.Act{act(7, 1)}, 59)},
	} {
		if got := impl.ActsIn(c.s); !sameActs(got, c.want) {
			t.Errorf("ActsIn(%q) = %v, not %v", c.s, got, c.want)
		}
	}
}

// TestRunActsValues tells whole stories: each act stands with its answer.
func TestRunActsValues(t *testing.T) {
	for _, story := range [][][2]string{
		// Views, parts of them that go down, and parts of these see the same cells.
		{{"size 8", "ok"}, {"view 0 8 1", "at 0"}, {"part 0 1 7 2", "at 1"}, {"fill 1 5", "ok"}, {"load 0", "has 0 5 0 5 0 5 0 0"}, {"flip 0", "at 2"}, {"part 2 -1 -100 -3", "at 3"}, {"fill 3 9", "ok"}, {"load 0", "has 9 5 0 9 0 5 9 0"}, {"load 1", "has 5 9 5"}, {"load 2", "has 0 9 5 0 9 0 5 9"}, {"load 3", "has 9 9 9"}},
		// Parts that are still open, and sizes that stay.
		{{"size 4", "ok"}, {"view 0 4 1", "at 0"}, {"flip 0", "at 1"}, {"flip 1", "at 2"}, {"free 0", "no"}, {"free 1", "no"}, {"size 4", "no"}, {"free 2", "ok"}, {"free 2", "no"}, {"free 0", "no"}, {"load 2", "no"}, {"load 1", "has 0 0 0 0"}, {"free 1", "ok"}, {"size 5", "no"}, {"free 0", "ok"}, {"size 5", "ok"}, {"flip 0", "no"}, {"fill 0 1", "no"}, {"view 4 1 0", "at 3"}, {"fill 3 7", "ok"}, {"size 5", "no"}, {"free 3", "ok"}, {"size 60", "ok"}, {"view 3 3 1", "at 4"}, {"load 4", "has 0 7 0"}},
		// Sizes, views, parts, values and exports that are not possible.
		{{"size 61", "no"}, {"size -1", "no"}, {"view 0 1 1", "no"}, {"size 60", "ok"}, {"view 0 61 0", "no"}, {"view 0 60 1", "at 0"}, {"view 1 60 1", "no"}, {"view 59 -1 1", "no"}, {"view -1 0 1", "no"}, {"view 61 0 1", "no"}, {"view 0 1 61", "no"}, {"view 0 1 -60", "at 1"}, {"part 0 0 1 0", "no"}, {"part 2 0 1 1", "no"}, {"part -1 0 1 1", "no"}, {"flip 2", "no"}, {"flip -1", "no"}, {"fill 0 -1", "no"}, {"fill -1 0", "no"}, {"fill 1 100", "ok"}, {"copy 0 1", "no"}, {"copy 1 2", "no"}, {"copy -1 0", "no"}, {"load 2", "no"}, {"load -1", "no"}, {"free 2", "no"}, {"free -1", "no"}, {"load 1", "has 100"}},
		// Exports without indices keep the size, too.
		{{"view 0 0 1", "at 0"}, {"load 0", "has"}, {"size 3", "no"}, {"flip 0", "at 1"}, {"fill 1 9", "ok"}, {"copy 0 1", "ok"}, {"part 1 -5 5 -1", "at 2"}, {"load 2", "has"}, {"free 0", "no"}, {"free 2", "ok"}, {"free 1", "ok"}, {"free 0", "ok"}, {"size 3", "ok"}, {"view 60 0 -60", "at 3"}, {"view 0 3 1", "at 4"}, {"part 4 3 1 1", "at 5"}, {"load 5", "has"}, {"copy 3 5", "ok"}, {"copy 3 4", "no"}},
		// Copies of lines that overlap, of one cell to all, and of all to one cell.
		{{"size 5", "ok"}, {"view 0 1 1", "at 0"}, {"view 1 1 1", "at 1"}, {"view 2 1 1", "at 2"}, {"fill 0 1", "ok"}, {"fill 1 2", "ok"}, {"fill 2 3", "ok"}, {"view 0 4 1", "at 3"}, {"view 1 4 1", "at 4"}, {"copy 4 3", "ok"}, {"load 3", "has 1 1 2 3"}, {"load 4", "has 1 2 3 0"}, {"copy 3 4", "ok"}, {"load 3", "has 1 2 3 0"}, {"view 2 4 0", "at 5"}, {"copy 5 3", "ok"}, {"load 3", "has 1 2 0 0"}, {"fill 5 6", "ok"}, {"copy 4 5", "ok"}, {"load 3", "has 1 6 6 6"}, {"load 4", "has 6 6 6 6"}, {"flip 3", "at 6"}, {"copy 3 6", "ok"}, {"load 3", "has 6 6 6 1"}},
		// No more than eight exports, open or not.
		{{"size 2", "ok"}, {"view 0 2 1", "at 0"}, {"free 0", "ok"}, {"view 0 2 1", "at 1"}, {"flip 1", "at 2"}, {"flip 1", "at 3"}, {"flip 1", "at 4"}, {"flip 1", "at 5"}, {"flip 1", "at 6"}, {"flip 1", "at 7"}, {"flip 1", "no"}, {"view 0 2 1", "no"}, {"part 1 0 1 1", "no"}, {"free 7", "ok"}, {"flip 1", "no"}, {"load 7", "no"}, {"load 6", "has 0 0"}},
	} {
		var text, answers string
		for _, one := range story {
			text += one[0] + "\n"
			answers += one[1] + "\n"
		}
		if got := impl.RunActs(text); got != answers {
			t.Errorf("RunActs(%q) = %q, not %q", text, got, answers)
		}
	}
	for _, s := range []string{"", "\n", "what", "what\n", "size 5", "load\n", "size 5\r\n"} {
		if got := impl.RunActs(s); got != "" {
			t.Errorf("RunActs(%q) = %q", s, got)
		}
		checkBuffer(t, "BufferAfter", s, impl.BufferAfter(s), true, impl.Buffer{})
	}
	if got := impl.RunActs(strings.Repeat("size 1\n", 70)); got != strings.Repeat("ok\n", 60) {
		t.Errorf("RunActs of too many acts = %q", got)
	}
}

// listsOf returns all lists of a buffer.
func listsOf(b impl.Buffer) [][]int {
	list := [][]int{b.Cells}
	for _, e := range b.Exports {
		list = append(list, e.View.Shape, e.View.Strides)
	}
	return list
}

// TestBuffersAreFreshAndKept checks that no two results share memory, that no argument is changed, neither within its length nor behind it, and that results are the same each time.
func TestBuffersAreFreshAndKept(t *testing.T) {
	cells, allCells := roomy(1, 2, 3, 4, 5, 6)
	shape, allShape := roomy(2, 3)
	strides, allStrides := roomy(3, 1)
	nums, allNums := roomy(0, 2, 1)
	v := vw(0, shape, strides...)
	room := append(make([]impl.Export, 0, 9), shown(-1, v), shown(0, v), hidden(-1, v), shown(-1, v))
	b := impl.Buffer{Cells: cells, Exports: room[:3]}
	closed := impl.Buffer{Cells: cells, Exports: room[2:3]}
	var exports [][]impl.Export
	call := func() [][]int {
		var results [][]int
		exports = nil
		keep := func(b impl.Buffer, _ bool) {
			exports = append(exports, b.Exports)
			results = append(results, listsOf(b)...)
		}
		keep(impl.NewBuffer(3), true)
		keep(impl.ExportView(b, v))
		keep(impl.ExportPart(b, 0, 1, open(-1)))
		keep(impl.ExportPart(b, 1, 0, open(1)))
		keep(impl.ReleaseExport(b, 1))
		keep(impl.ResizeBuffer(closed, 6))
		keep(impl.ResizeBuffer(closed, 9))
		keep(impl.FillExport(b, 0, 9))
		keep(impl.CopyExport(b, 0, 1))
		for _, a := range []impl.Act{act(impl.AcView, nums...), act(impl.AcLoad, nums[:1]...), act(impl.AcFree, nums[:1]...), act(impl.AcFlip, nums[:1]...), act(impl.AcFill, nums[:2]...), act(impl.AcSize, nums[1:2]...)} {
			after, answer := impl.ApplyAct(b, a)
			keep(after, answer != "")
		}
		keep(impl.BufferAfter("size 4\nview 0 4 1\nflip 0\n"), true)
		parsed, _ := impl.ParseAct("view 0 2 1")
		results = append(results, impl.KidsOf(b, -1), impl.KidsOf(b, 0), impl.OpenOf(b), impl.LoadExport(b, 0), parsed.Nums)
		for _, a := range impl.ActsIn("size 4\nview 0 4 1\n") {
			results = append(results, a.Nums)
		}
		return results
	}
	before, beforeExports := call(), exports
	for i, got := range call() {
		if len(got) < 1 || !slices.Equal(got, before[i]) {
			t.Fatalf("result %d is %v, and was %v", i, got, before[i])
		}
	}
	for i, got := range call() {
		if !slices.Equal(got, before[i]) {
			t.Fatalf("result %d is %v, and was %v", i, got, before[i])
		}
		for k := range got[:cap(got)] {
			got[:cap(got)][k] = 55
		}
	}
	call()
	for i, got := range exports {
		for id, e := range got {
			if e.Parent != beforeExports[i][id].Parent || e.Open != beforeExports[i][id].Open {
				t.Fatalf("the exports %d are %v, and were %v", i, got, beforeExports[i])
			}
		}
		clear(got[:cap(got)])
	}
	for i, got := range call() {
		if !slices.Equal(got, before[i]) {
			t.Fatalf("result %d is %v, and was %v", i, got, before[i])
		}
	}
	if !slices.Equal(allCells, ints(1, 2, 3, 4, 5, 6, 77, 77, 77)) || !slices.Equal(allShape, ints(2, 3, 77, 77, 77)) || !slices.Equal(allStrides, ints(3, 1, 77, 77, 77)) || !slices.Equal(allNums, ints(0, 2, 1, 77, 77, 77)) {
		t.Errorf("an argument was changed: %v, %v, %v, %v", allCells, allShape, allStrides, allNums)
	}
	if !sameExports(room, []impl.Export{shown(-1, v), shown(0, v), hidden(-1, v), shown(-1, v)}) || !sameExports(room[4:9], make([]impl.Export, 5)) {
		t.Errorf("an argument was changed: %v", room[:9])
	}
}
