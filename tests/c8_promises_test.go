package tests

import (
	"slices"
	"strconv"
	"strings"
	"testing"

	"loop.example/strideviews/impl"
)

// TestP103ExportsCanBeClosed needs buffers that are not valid, too: some of these are made valid by closing all exports, others are not.
func TestP103ExportsCanBeClosed(t *testing.T) {
	made := map[[2]bool]int{}
	check := func(b impl.Buffer) {
		closed := allClosed(b)
		ok, later := impl.ValidBuffer(b), impl.ValidBuffer(closed)
		if ok != plainBuffer(b) || later != plainBuffer(closed) {
			t.Fatalf("ValidBuffer(%v) is %v, and with all exports closed %v", b, ok, later)
		}
		if none := (impl.Buffer{Cells: b.Cells}); ok && (!later || !impl.ValidBuffer(none)) {
			t.Fatalf("%v is valid, but not without open exports, or not without any", b)
		}
		made[[2]bool{ok, later}]++
	}
	for _, b := range manyBuffers() {
		if !plainBuffer(b) {
			t.Fatalf("%v is no buffer", b)
		}
		check(b)
		for _, near := range nearBuffers(b) {
			check(near)
		}
	}
	if made[[2]bool{true, true}] == 0 || made[[2]bool{false, true}] == 0 || made[[2]bool{false, false}] == 0 || len(made) != 3 {
		t.Fatalf("buffers are valid, and if closed: %v", made)
	}
}

func TestP104NewBuffersAreEmpty(t *testing.T) {
	for n := range 61 {
		b := impl.NewBuffer(n)
		checkBuffer(t, "NewBuffer", n, b, true, impl.Buffer{Cells: make([]int, n)})
		if open, kids := impl.OpenOf(b), impl.KidsOf(b, -1); len(open) != 0 || len(kids) != 0 {
			t.Fatalf("NewBuffer(%d) has %v and %v open", n, open, kids)
		}
	}
	for _, n := range badCounts() {
		checkNoBuffer(t, "NewBuffer", n, impl.NewBuffer(n), false)
	}
}

func TestP105ExportsSeeTheCells(t *testing.T) {
	exported := map[bool]int{}
	for _, b := range manyBuffers() {
		for _, v := range someOf(exportViews(), 3) {
			got, ok := impl.ExportView(b, v)
			id := len(b.Exports)
			exported[ok]++
			if !plainFits(v, len(b.Cells)) || id == 8 {
				checkNoBuffer(t, "ExportView", b, got, ok)
				continue
			}
			checkBuffer(t, "ExportView", b, got, ok, withExport(b, id, shown(-1, v)))
			seen := impl.LoadExport(got, id)
			if !slices.Equal(seen, impl.LoadView(b.Cells, v)) || !slices.Equal(seen, chosen(b.Cells, plainCells(v))) {
				t.Fatalf("the export %d of %v sees %v", id, got, seen)
			}
		}
	}
	if exported[true] == 0 || exported[false] == 0 {
		t.Fatalf("views can be exported or not: %v", exported)
	}
}

func TestP106PartsSeeWhatTheirExportsSee(t *testing.T) {
	parts, all := 0, fewSlices()
	for k, b := range manyBuffers() {
		for _, id := range plainOpen(b) {
			v := b.Exports[id].View
			for d := range v.Shape {
				s := all[(5*k+3*id+d)%len(all)]
				got, ok := impl.ExportPart(b, id, d, s)
				if len(b.Exports) == 8 {
					checkNoBuffer(t, "ExportPart", b, got, ok)
					continue
				}
				part := slicedDim(v, d, plainIndices(v.Shape[d], s))
				checkBuffer(t, "ExportPart", b, got, ok, withExport(b, len(b.Exports), shown(id, part)))
				if !slices.Contains(impl.KidsOf(got, id), len(b.Exports)) {
					t.Fatalf("the new export of %v is none of %v of %d", got, impl.KidsOf(got, id), id)
				}
				cells := plainCells(v)
				for _, cell := range impl.OffsetsOf(got.Exports[len(b.Exports)].View) {
					if !slices.Contains(cells, cell) {
						t.Fatalf("a part of %d of %v has the cell %d", id, got, cell)
					}
					parts++
				}
			}
		}
	}
	if parts == 0 {
		t.Fatal("no part has cells")
	}
}

func TestP107KidsAreOpenAndOfOpenExports(t *testing.T) {
	for _, b := range manyBuffers() {
		var all []int
		for id := -1; id < len(b.Exports); id++ {
			kids := impl.KidsOf(b, id)
			if !slices.Equal(kids, plainKids(b, id)) {
				t.Fatalf("KidsOf(%v, %d) = %v", b, id, kids)
			}
			if id >= 0 && !b.Exports[id].Open && len(kids) > 0 {
				t.Fatalf("KidsOf(%v, %d) = %v, but it is not open", b, id, kids)
			}
			all = append(all, kids...)
		}
		slices.Sort(all)
		if open := impl.OpenOf(b); !slices.Equal(open, all) || !slices.Equal(open, plainOpen(b)) {
			t.Fatalf("OpenOf(%v) = %v, but %v are kids", b, open, all)
		}
	}
}

func TestP108OpenExportsCanAllBeReleased(t *testing.T) {
	for k, b := range manyBuffers() {
		after := b
		for _, id := range slices.Backward(impl.OpenOf(b)) {
			next, ok := impl.ReleaseExport(after, id)
			checkBuffer(t, "ReleaseExport", after, next, ok, withOpen(after, id, false))
			after = next
		}
		if open := impl.OpenOf(after); len(open) != 0 || !sameBuffers(after, allClosed(b)) {
			t.Fatalf("%v are still open in %v", open, after)
		}
		for n := k % 5; n <= 60; n += 5 {
			if got, ok := impl.ResizeBuffer(after, n); !ok || len(got.Cells) != n || !impl.ValidBuffer(got) {
				t.Fatalf("ResizeBuffer(%v, %d) = %v, %v", after, n, got, ok)
			}
		}
	}
}

func TestP109ReleasedExportsAreClosed(t *testing.T) {
	released := map[bool]int{}
	for _, b := range manyBuffers() {
		for id := range b.Exports {
			got, ok := impl.ReleaseExport(b, id)
			released[ok]++
			if !b.Exports[id].Open || len(plainKids(b, id)) > 0 {
				checkNoBuffer(t, "ReleaseExport", b, got, ok)
				continue
			}
			checkBuffer(t, "ReleaseExport", b, got, ok, withOpen(b, id, false))
			if slices.Contains(impl.OpenOf(got), id) || len(impl.LoadExport(got, id)) != 0 {
				t.Fatalf("the export %d of %v is open", id, got)
			}
			again, ok := impl.ReleaseExport(got, id)
			checkNoBuffer(t, "ReleaseExport again", got, again, ok)
		}
	}
	if released[true] == 0 || released[false] == 0 {
		t.Fatalf("exports can be released or not: %v", released)
	}
}

func TestP110NobodyLosesCellsThatAreSeen(t *testing.T) {
	resized := map[bool]int{}
	for _, b := range manyBuffers() {
		for n := range 61 {
			got, ok := impl.ResizeBuffer(b, n)
			resized[ok]++
			if len(plainOpen(b)) > 0 {
				checkNoBuffer(t, "ResizeBuffer", b, got, ok)
				continue
			}
			cells := append(slices.Clone(b.Cells), make([]int, 60)...)[:n]
			checkBuffer(t, "ResizeBuffer", b, got, ok, withCells(b, cells))
		}
		for _, n := range badCounts() {
			got, ok := impl.ResizeBuffer(b, n)
			checkNoBuffer(t, "ResizeBuffer", b, got, ok)
		}
	}
	if resized[true] == 0 || resized[false] == 0 {
		t.Fatalf("buffers can be resized or not: %v", resized)
	}
}

func TestP111OpenExportsHaveValues(t *testing.T) {
	seen := 0
	for _, b := range manyBuffers() {
		for id, e := range b.Exports {
			got, want := impl.LoadExport(b, id), []int(nil)
			if e.Open {
				want = impl.LoadView(b.Cells, e.View)
				if !slices.Equal(want, chosen(b.Cells, plainCells(e.View))) {
					t.Fatalf("LoadView(%v, %v) = %v", b.Cells, e.View, want)
				}
			}
			if !slices.Equal(got, want) {
				t.Fatalf("LoadExport(%v, %d) = %v, not %v", b, id, got, want)
			}
			seen += len(got)
		}
	}
	if seen == 0 {
		t.Fatal("no export has values")
	}
}

// TestP112OthersSeeWhatIsFilled counts exports that share all, some, or none of their cells with the one that is filled.
func TestP112OthersSeeWhatIsFilled(t *testing.T) {
	shares := map[[2]bool]int{}
	for k, b := range manyBuffers() {
		for id, e := range b.Exports {
			value := ints(0, 255, 99, 1)[(k+id)%4]
			got, ok := impl.FillExport(b, id, value)
			if !e.Open {
				checkNoBuffer(t, "FillExport", b, got, ok)
				continue
			}
			filled := plainCells(e.View)
			checkBuffer(t, "FillExport", b, got, ok, withCells(b, plainStored(b.Cells, filled, slices.Repeat(ints(value), len(filled)))))
			for _, other := range plainOpen(b) {
				before, after := impl.LoadExport(b, other), impl.LoadExport(got, other)
				share := [2]bool{}
				for k, cell := range plainCells(b.Exports[other].View) {
					shared := slices.Contains(filled, cell)
					if shared && after[k] != value || !shared && after[k] != before[k] {
						t.Fatalf("FillExport(%v, %d, %d) = %v, and %d sees %v", b, id, value, got, other, after)
					}
					share[0], share[1] = share[0] || shared, share[1] || !shared
				}
				shares[share]++
			}
			for _, bad := range badValues(1) {
				if len(bad) == 1 {
					none, ok := impl.FillExport(b, id, bad[0])
					checkNoBuffer(t, "FillExport", b, none, ok)
				}
			}
		}
	}
	if len(shares) != 4 {
		t.Fatalf("exports share cells or not: %v", shares)
	}
}

func TestP113CopiedExportsHaveTheValues(t *testing.T) {
	copies := map[bool]int{}
	for _, b := range manyBuffers() {
		for to, e := range b.Exports {
			for from, f := range b.Exports {
				got, ok := impl.CopyExport(b, to, from)
				if !e.Open || !f.Open || !slices.Equal(e.View.Shape, f.View.Shape) {
					checkNoBuffer(t, "CopyExport", b, got, ok)
					continue
				}
				there := impl.LoadExport(b, from)
				checkBuffer(t, "CopyExport", b, got, ok, withCells(b, plainStored(b.Cells, plainCells(e.View), chosen(b.Cells, plainCells(f.View)))))
				once := isOnce(plainCells(e.View))
				if once && !slices.Equal(impl.LoadExport(got, to), there) {
					t.Fatalf("CopyExport(%v, %d, %d) = %v, but %v were there", b, to, from, got, there)
				}
				if to != from && len(there) > 1 {
					copies[once]++
				}
			}
		}
	}
	if copies[true] == 0 || copies[false] == 0 {
		t.Fatalf("exports to which others are copied are one to one or not: %v", copies)
	}
}

func TestP114ActsNeedTheirNumbers(t *testing.T) {
	for _, a := range manyActs() {
		zero := act(a.Kind, make([]int, len(a.Nums))...)
		if !impl.ValidAct(a) || impl.ValidAct(act(a.Kind)) || !impl.ValidAct(zero) {
			t.Fatalf("%v is no act, or with no numbers it is, or with all of them 0 it is not", a)
		}
		if more := act(a.Kind, inserted(a.Nums, 0, 0)...); impl.ValidAct(more) {
			t.Fatalf("%v is an act", more)
		}
		if fewer := act(a.Kind, a.Nums[1:]...); impl.ValidAct(fewer) {
			t.Fatalf("%v is an act", fewer)
		}
	}
	for _, a := range badActs() {
		if impl.ValidAct(a) {
			t.Fatalf("%v is an act", a)
		}
	}
}

// answerTo returns the answer to an act on a valid buffer, and whether it is possible, by the functions that the act stands for.
func answerTo(b impl.Buffer, a impl.Act) (impl.Buffer, string) {
	after, ok, answer, n := b, false, "ok", a.Nums
	switch actWords[a.Kind] {
	case "size":
		after, ok = impl.ResizeBuffer(b, n[0])
	case "view":
		after, ok = impl.ExportView(b, vw(n[0], ints(n[1]), n[2]))
		answer = "at " + strconv.Itoa(len(b.Exports))
	case "part":
		after, ok = impl.ExportPart(b, n[0], 0, between(n[1], n[2], n[3]))
		answer = "at " + strconv.Itoa(len(b.Exports))
	case "flip":
		after, ok = impl.ExportPart(b, n[0], 0, open(-1))
		answer = "at " + strconv.Itoa(len(b.Exports))
	case "fill":
		after, ok = impl.FillExport(b, n[0], n[1])
	case "copy":
		after, ok = impl.CopyExport(b, n[0], n[1])
	case "load":
		ok = slices.Contains(plainOpen(b), n[0])
		answer = plainSpaced("has", impl.LoadExport(b, n[0]))
	case "free":
		after, ok = impl.ReleaseExport(b, n[0])
	}
	if !ok {
		return b, "no"
	}
	return after, answer
}

func TestP115ActsThatAreNotPossibleChangeNothing(t *testing.T) {
	possible := map[int]map[bool]int{}
	for _, b := range manyBuffers() {
		for _, a := range actsFor() {
			got, answer := impl.ApplyAct(b, a)
			want, wanted := answerTo(b, a)
			if answer != wanted {
				t.Fatalf("ApplyAct(%v, %v) answers %q, not %q", b, a, answer, wanted)
			}
			checkBuffer(t, "ApplyAct", []any{b, a}, got, true, want)
			if !sameBuffers(got, b) && (answer == "no" || strings.HasPrefix(answer, "has")) {
				t.Fatalf("ApplyAct(%v, %v) = %v, but answers %q", b, a, got, answer)
			}
			if possible[a.Kind] == nil {
				possible[a.Kind] = map[bool]int{}
			}
			possible[a.Kind][answer != "no"]++
		}
	}
	for kind := range actWords {
		if possible[kind][true] == 0 || possible[kind][false] == 0 {
			t.Fatalf("acts of the kind %d are possible or not: %v", kind, possible[kind])
		}
	}
}

// checkSeen fails if an act makes an open export lose its cells, or opens another one than a new one.
func checkSeen(t *testing.T, before impl.Buffer, a impl.Act, after impl.Buffer) {
	t.Helper()
	for id, e := range after.Exports {
		if !e.Open {
			continue
		}
		isNew := id == len(before.Exports)
		if !plainFits(e.View, len(after.Cells)) || !isNew && !before.Exports[id].Open {
			t.Fatalf("ApplyAct(%v, %v) = %v, but the export %d does not fit, or was not open", before, a, after, id)
		}
		if !isNew && !sameExports(before.Exports[id:id+1], after.Exports[id:id+1]) {
			t.Fatalf("ApplyAct(%v, %v) = %v, but the export %d is another one", before, a, after, id)
		}
	}
}

func TestP116NoActMakesAnOpenExportLoseItsCells(t *testing.T) {
	for _, b := range manyBuffers() {
		for _, a := range actsFor() {
			after, _ := impl.ApplyAct(b, a)
			checkSeen(t, b, a, after)
		}
	}
	opened := 0
	for _, text := range manyTexts() {
		b := impl.NewBuffer(0)
		for _, a := range impl.ActsIn(text) {
			after, _ := impl.ApplyAct(b, a)
			checkSeen(t, b, a, after)
			b = after
			opened += len(plainOpen(b))
		}
	}
	if opened == 0 {
		t.Fatal("no export was open")
	}
}

func TestP117ActsAreReadBack(t *testing.T) {
	for _, a := range manyActs() {
		s := impl.FormatAct(a)
		if s != plainText(a) {
			t.Fatalf("FormatAct(%v) = %q", a, s)
		}
		if got, ok := impl.ParseAct(s); !ok || !sameActs([]impl.Act{got}, []impl.Act{a}) {
			t.Fatalf("ParseAct(%q) = %v, %v, not %v", s, got, ok, a)
		}
	}
}

// spelledTexts returns texts of words and numbers, many of which are no acts: with other words, and with numbers that are too few, too many, or written in another way.
func spelledTexts() []string {
	var list []string
	numbers := []string{"0", "7", "-7", "42", "100", "-100", "101", "-101", "+7", "-0", "07", "00", "", "x", "7x", "0x7"}
	for _, word := range append([]string{"", "Load", "loads", "what", "7"}, actWords...) {
		for _, first := range numbers {
			list = append(list, word+" "+first)
			for _, second := range numbers {
				list = append(list, word+" "+first+" "+second)
				for _, third := range numbers[:6] {
					list = append(list, word+" "+first+" "+second+" "+third, word+" 1 "+third+" "+first+" "+second, word+" "+first+" 1 "+second+" "+third, word+" 0 1 "+third+" "+second+" "+first)
				}
			}
		}
	}
	return list
}

func TestP118ActsAreWrittenBack(t *testing.T) {
	acts := map[bool]int{}
	for _, s := range slices.Concat(spelledTexts(), badLines(), manyTexts()) {
		a, ok := impl.ParseAct(s)
		acts[ok]++
		if ok != plainIsAct(s) {
			t.Fatalf("ParseAct(%q) = %v, %v", s, a, ok)
		}
		if !ok && !sameActs([]impl.Act{a}, []impl.Act{{}}) {
			t.Fatalf("ParseAct(%q) = %v, %v", s, a, ok)
		}
		if ok && (impl.FormatAct(a) != s || plainText(a) != s || !impl.ValidAct(a)) {
			t.Fatalf("ParseAct(%q) = %v, and FormatAct of it is %q", s, a, impl.FormatAct(a))
		}
	}
	if acts[true] == 0 || acts[false] == 0 {
		t.Fatalf("texts are acts or not: %v", acts)
	}
}

// beginningsOf returns beginnings of a text: all up to the end of a line, all but the newline of it, and some others.
func beginningsOf(s string, apart int) []string {
	list := []string{"", s}
	for k := range s {
		if s[k] == '\n' || k%apart == 0 {
			list = append(list, s[:k], s[:k+1])
		}
	}
	return list
}

func TestP119WhatIsReadWasWritten(t *testing.T) {
	counts := map[bool]int{}
	for k, s := range manyTexts() {
		all := impl.ActsIn(s)
		written := ""
		for _, a := range all {
			written += impl.FormatAct(a) + "\n"
		}
		lines := plainLines(s)
		if !strings.HasPrefix(s, written) || len(all) != len(lines) || strings.Count(written, "\n") != len(lines) {
			t.Fatalf("ActsIn(%q) = %v", s, all)
		}
		counts[written == s]++
		for _, beginning := range beginningsOf(s, k%17+1) {
			some := impl.ActsIn(beginning)
			if len(some) > len(all) || !sameActs(some, all[:len(some)]) || len(some) != len(plainLines(beginning)) {
				t.Fatalf("ActsIn(%q) = %v, but of the beginning %q it is %v", s, all, beginning, some)
			}
		}
	}
	if counts[true] == 0 || counts[false] == 0 {
		t.Fatalf("texts are read up to their ends or not: %v", counts)
	}
}

func TestP120BuffersThatAreReadAreValid(t *testing.T) {
	for _, s := range manyTexts() {
		want := impl.NewBuffer(0)
		for _, a := range impl.ActsIn(s) {
			want, _ = impl.ApplyAct(want, a)
		}
		got := impl.BufferAfter(s)
		checkBuffer(t, "BufferAfter", s, got, true, want)
		told, _ := plainRun(s)
		if !slices.Equal(got.Cells, told.cells) || len(got.Exports) != len(told.exports) {
			t.Fatalf("BufferAfter(%q) = %v, not %v", s, got, told)
		}
		for id, e := range told.exports {
			if one := got.Exports[id]; one.Open != e.isOpen || one.Parent != e.parent || !slices.Equal(plainCells(one.View), e.cells) {
				t.Fatalf("BufferAfter(%q) = %v, but the export %d is %v", s, got, id, e)
			}
		}
	}
}

func TestP121EachActHasAnAnswer(t *testing.T) {
	given := map[string]int{}
	for k, s := range manyTexts() {
		got := impl.RunActs(s)
		_, answers := plainRun(s)
		if strings.Count(got, "\n") != len(impl.ActsIn(s)) || got != strings.Join(append(answers, ""), "\n") {
			t.Fatalf("RunActs(%q) = %q, not %q", s, got, answers)
		}
		for _, beginning := range beginningsOf(s, 5*(k%17)+11) {
			if some := impl.RunActs(beginning); !strings.HasPrefix(got, some) {
				t.Fatalf("RunActs(%q) = %q, but of the beginning %q it is %q", s, got, beginning, some)
			}
		}
		for i, line := range plainLines(s) {
			word, _, _ := strings.Cut(line, " ")
			answer, _, _ := strings.Cut(answers[i], " ")
			given[word+" "+answer]++
		}
	}
	for _, one := range []string{"size ok", "size no", "view at", "view no", "part at", "part no", "flip at", "flip no", "fill ok", "fill no", "copy ok", "copy no", "load has", "load no", "free ok", "free no"} {
		if given[one] == 0 {
			t.Fatalf("the answers were %v", given)
		}
	}
}

func TestP122LoadsTellWhatIsThere(t *testing.T) {
	loaded := 0
	for _, s := range manyTexts() {
		acts := impl.ActsIn(s)
		var whole string
		for _, a := range acts {
			whole += impl.FormatAct(a) + "\n"
		}
		b := impl.BufferAfter(whole)
		for id := range b.Exports {
			values, answer := impl.LoadExport(b, id), "no\n"
			if b.Exports[id].Open {
				answer = plainSpaced("has", values) + "\n"
				loaded += len(values)
			}
			if len(acts) == impl.MaxActs {
				answer = ""
			}
			if got := impl.RunActs(whole + "load " + strconv.Itoa(id) + "\n"); got != impl.RunActs(whole)+answer {
				t.Fatalf("RunActs(%q) and a load of %d = %q, not %q", whole, id, got, answer)
			}
		}
	}
	if loaded == 0 {
		t.Fatal("no values were loaded")
	}
}
