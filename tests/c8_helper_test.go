package tests

import (
	"math"
	"regexp"
	"slices"
	"strconv"
	"strings"
	"sync"
	"testing"

	"loop.example/strideviews/impl"
)

// shown returns an open export.
func shown(parent int, v impl.View) impl.Export {
	return impl.Export{Parent: parent, View: v, Open: true}
}

// hidden returns an export that is not open.
func hidden(parent int, v impl.View) impl.Export {
	return impl.Export{Parent: parent, View: v}
}

// bufferOf returns a buffer of n cells with different values.
func bufferOf(n int, exports ...impl.Export) impl.Buffer {
	return impl.Buffer{Cells: ownValues(n), Exports: exports}
}

// act returns an act.
func act(kind int, nums ...int) impl.Act {
	return impl.Act{Kind: kind, Nums: nums}
}

// copied returns a buffer in memory of its own.
func copied(b impl.Buffer) impl.Buffer {
	exports := slices.Clone(b.Exports)
	for id, e := range exports {
		exports[id].View = vw(e.View.Base, slices.Clone(e.View.Shape), slices.Clone(e.View.Strides)...)
	}
	return impl.Buffer{Cells: slices.Clone(b.Cells), Exports: exports}
}

// withExport returns a buffer with another export at an index, or with one more behind all others.
func withExport(b impl.Buffer, id int, e impl.Export) impl.Buffer {
	out := copied(b)
	out.Exports = append(out.Exports, impl.Export{})[:max(len(b.Exports), id+1)]
	out.Exports[id] = e
	return out
}

// withOpen returns a buffer in which an export is open or not.
func withOpen(b impl.Buffer, id int, isOpen bool) impl.Buffer {
	e := b.Exports[id]
	e.Open = isOpen
	return withExport(b, id, e)
}

// withCells returns a buffer with other cells.
func withCells(b impl.Buffer, cells []int) impl.Buffer {
	return impl.Buffer{Cells: cells, Exports: copied(b).Exports}
}

// allClosed returns a buffer in which no export is open.
func allClosed(b impl.Buffer) impl.Buffer {
	for id := range b.Exports {
		b = withOpen(b, id, false)
	}
	return b
}

// sameExports reports whether exports are equal in all fields.
func sameExports(a []impl.Export, b []impl.Export) bool {
	return slices.EqualFunc(a, b, func(e impl.Export, f impl.Export) bool {
		return e.Parent == f.Parent && e.Open == f.Open && sameViews(e.View, f.View)
	})
}

// sameBuffers reports whether two buffers are equal in all fields.
func sameBuffers(a impl.Buffer, b impl.Buffer) bool {
	return slices.Equal(a.Cells, b.Cells) && sameExports(a.Exports, b.Exports)
}

// sameActs reports whether acts are equal in all fields.
func sameActs(a []impl.Act, b []impl.Act) bool {
	return slices.EqualFunc(a, b, func(x impl.Act, y impl.Act) bool {
		return x.Kind == y.Kind && slices.Equal(x.Nums, y.Nums)
	})
}

// plainFits reports whether all cells to which a walk through a view comes are less than n.
func plainFits(v impl.View, n int) bool {
	return !slices.ContainsFunc(plainCells(v), func(x int) bool { return x >= n })
}

// plainBuffer reports whether a buffer is valid.
func plainBuffer(b impl.Buffer) bool {
	if len(b.Cells) > 60 || len(b.Exports) > 8 || slices.ContainsFunc(b.Cells, func(x int) bool { return x < 0 || x > 255 }) {
		return false
	}
	for id, e := range b.Exports {
		if !plainValid(e.View) || e.Parent < -1 || e.Parent >= id {
			return false
		}
		if e.Open && (!plainFits(e.View, len(b.Cells)) || e.Parent >= 0 && !b.Exports[e.Parent].Open) {
			return false
		}
	}
	return true
}

// plainOpen returns the indices of the open exports of a valid buffer.
func plainOpen(b impl.Buffer) []int {
	return slices.DeleteFunc(firstNumbers(len(b.Exports)), func(id int) bool { return !b.Exports[id].Open })
}

// plainKids returns the indices of the open exports of a valid buffer with a parent.
func plainKids(b impl.Buffer, parent int) []int {
	return slices.DeleteFunc(plainOpen(b), func(id int) bool { return b.Exports[id].Parent != parent })
}

// exportViews returns valid views of all kinds, few enough to go through all of them for each buffer.
var exportViews = sync.OnceValue(func() []impl.View {
	return slices.Concat(edgeViews(), lacedViews(), someOf(smallViews(), 29))
})

// parentLists returns all lists of parents of n exports.
func parentLists(n int) [][]int {
	if n == 0 {
		return [][]int{{}}
	}
	var list [][]int
	for _, rest := range parentLists(n - 1) {
		for parent := -1; parent < n-1; parent++ {
			list = append(list, inserted(rest, n-1, parent))
		}
	}
	return list
}

// openLists returns all ways in which exports with such parents are open or not: none of those that are open has a parent that is not.
func openLists(parents []int) [][]bool {
	list := [][]bool{{}}
	for _, parent := range parents {
		var more [][]bool
		for _, rest := range list {
			more = append(more, append(slices.Clone(rest), false))
			if parent < 0 || rest[parent] {
				more = append(more, append(slices.Clone(rest), true))
			}
		}
		list = more
	}
	return list
}

// treeBuffers returns valid buffers with all trees of at most four exports, open and not, with views of all kinds. Some have no cell more than the open ones need.
func treeBuffers() []impl.Buffer {
	var list []impl.Buffer
	views, next := exportViews(), 0
	for n := range 5 {
		for _, parents := range parentLists(n) {
			for _, opens := range openLists(parents) {
				var exports []impl.Export
				size := 0
				for id, isOpen := range opens {
					v := views[next%len(views)]
					next += 7
					if isOpen {
						size = max(size, sizesFor(v)[0])
					}
					exports = append(exports, impl.Export{Parent: parents[id], View: v, Open: isOpen})
				}
				next++
				list = append(list, bufferOf(ints(size, 60, min(size+1, 60))[next%3], exports...))
			}
		}
	}
	return list
}

// pairBuffers returns valid buffers with two open exports with an equal shape, of which one may be a part of the other one, and with others that share cells with them.
func pairBuffers() []impl.Buffer {
	var list []impl.Buffer
	for k, p := range someOf(copyPairs(), 97) {
		n := len(p.memoryFor())
		exports := []impl.Export{shown(-1, p.to), shown(k%2-1, p.from)}
		if k%3 > 0 && n > 0 {
			exports = append(exports, shown(k%3-1, vw(0, ints(n), 1)), hidden(1, p.to), shown(-1, vw(n-1, ints(n, 1), -1, 60)))
		}
		list = append(list, bufferOf(n, exports...))
	}
	return list
}

// fullBuffers returns valid buffers with as many exports as are allowed, or one less: one behind the other, all of the buffer, open and not.
func fullBuffers() []impl.Buffer {
	var list []impl.Buffer
	for _, n := range []int{7, 8} {
		var chain, flat, forked []impl.Export
		for id := range n {
			chain = append(chain, shown(id-1, vw(id, ints(60-id), 1)))
			flat = append(flat, shown(-1, vw(id, ints(4), 9)))
			forked = append(forked, impl.Export{Parent: (id+1)/2 - 1, View: vw(59-id, ints(2, 3), -20, -5), Open: id < 5})
		}
		list = append(list, bufferOf(60, chain...), bufferOf(60, flat...), bufferOf(60, forked...), allClosed(bufferOf(60, chain...)), allClosed(bufferOf(0, flat...)), withOpen(bufferOf(60, chain...), n-1, false), withOpen(bufferOf(60, flat...), 0, false))
	}
	return list
}

// manyBuffers returns valid buffers of all kinds.
var manyBuffers = sync.OnceValue(func() []impl.Buffer {
	matrix, line, none := vw(0, ints(2, 3), 3, 1), vw(0, ints(6), 1), vw(60, ints(0), 60)
	list := slices.Concat(treeBuffers(), pairBuffers(), fullBuffers())
	for _, mem := range manyMemories() {
		list = append(list, impl.Buffer{Cells: mem}, impl.Buffer{Cells: mem, Exports: []impl.Export{shown(-1, vw(0, ints(len(mem)), 1))}})
	}
	return append(list,
		// Parts that are still open, of a line and of a matrix.
		bufferOf(6, shown(-1, line), shown(0, vw(1, ints(3), 1)), shown(1, vw(3, ints(3), -1))), bufferOf(6, shown(-1, line), hidden(0, vw(1, ints(3), 1)), hidden(1, vw(3, ints(3), -1))), bufferOf(6, shown(-1, matrix), shown(0, vw(2, ints(2, 3), 3, -1)), hidden(0, matrix), shown(1, vw(2, ints(1, 3), 0, -1))), bufferOf(6, hidden(-1, line), shown(-1, line), shown(1, line), hidden(0, line)),
		// Exports without indices, also of a buffer without cells, and parts of them.
		bufferOf(0, shown(-1, none)), bufferOf(0, hidden(-1, none)), bufferOf(0, shown(-1, none), shown(0, vw(0, ints(0), 0))), bufferOf(6, shown(-1, none), shown(-1, line), shown(1, vw(0, ints(0), 0))), bufferOf(0, shown(-1, vw(60, ints(3, 0), 5, -60)), shown(0, vw(0, ints(2, 0), 0, 0))),
		// Exports without dimensions.
		bufferOf(1, shown(-1, vw(0, nil))), bufferOf(60, shown(-1, vw(59, nil)), shown(-1, vw(59, nil)), shown(1, vw(59, nil))),
		// Exports that are not open need not fit.
		bufferOf(0, hidden(-1, line)), bufferOf(5, hidden(-1, line), hidden(0, vw(59, ints(60), -1)), hidden(0, vw(59, nil))), bufferOf(3, hidden(-1, vw(59, ints(60), -1)), shown(-1, vw(2, ints(3), -1)), hidden(1, vw(30, nil))),
	)
})

// nearBuffers returns buffers that are made of a valid one with one change: many of them are not valid.
func nearBuffers(b impl.Buffer) []impl.Buffer {
	n := len(b.Exports)
	list := []impl.Buffer{withCells(b, ownValues(61)), withExport(b, n, shown(-1, vw(0, nil))), withExport(b, n, hidden(n-1, vw(59, nil))), withExport(b, n, hidden(n, vw(0, nil)))}
	for id := range b.Exports {
		e, fitting := b.Exports[id], sizesFor(b.Exports[id].View)[0]
		list = append(list, withOpen(b, id, !e.Open), withCells(b, ownValues(fitting)), withCells(b, ownValues(max(fitting-1, 0))))
		for _, parent := range []int{-1, -2, 0, id - 1, id, id + 1, n, math.MinInt, math.MaxInt} {
			list = append(list, withExport(b, id, impl.Export{Parent: parent, View: e.View, Open: e.Open}))
		}
		for _, bad := range []impl.View{vw(e.View.Base+1, e.View.Shape, e.View.Strides...), vw(e.View.Base, e.View.Shape), vw(-1, nil), vw(60, nil), vw(0, ints(61), 0)} {
			list = append(list, withExport(b, id, impl.Export{Parent: e.Parent, View: bad, Open: e.Open}))
		}
	}
	for x := range b.Cells {
		list = append(list, withCells(b, with(b.Cells, x, ints(256, -1)[x%2])))
	}
	return list
}

// badBuffers returns buffers that are not valid.
var badBuffers = sync.OnceValue(func() []impl.Buffer {
	line := vw(0, ints(6), 1)
	list := []impl.Buffer{
		// An open part of an export that is not open, straight and further down.
		bufferOf(6, hidden(-1, line), shown(0, line)), bufferOf(6, shown(-1, line), hidden(0, line), shown(1, line)), bufferOf(6, hidden(-1, line), hidden(0, line), shown(1, line)), bufferOf(6, hidden(-1, vw(0, ints(0), 1)), shown(0, vw(0, ints(0), 1))), bufferOf(6, shown(-1, line), hidden(-1, line), shown(0, line), shown(1, line)),
		// Parents that are not there, or come later.
		bufferOf(6, shown(0, line)), bufferOf(6, hidden(0, line)), bufferOf(6, shown(1, line), shown(-1, line)), bufferOf(6, hidden(1, line), hidden(-1, line)), bufferOf(6, shown(-2, line)), bufferOf(6, hidden(-2, line)), bufferOf(6, hidden(math.MinInt, line)), bufferOf(6, hidden(math.MaxInt, line)), bufferOf(6, shown(-1, line), shown(0, line), shown(7, line)),
		// Open exports that do not fit.
		bufferOf(5, shown(-1, line)), bufferOf(0, shown(-1, vw(0, nil))), bufferOf(59, shown(-1, vw(59, ints(1), 60))), bufferOf(6, shown(-1, line), shown(0, vw(6, nil))),
		// Too many exports, or cells.
		bufferOf(60, slices.Repeat([]impl.Export{hidden(-1, line)}, 9)...), bufferOf(60, slices.Repeat([]impl.Export{shown(-1, line)}, 9)...), bufferOf(61), bufferOf(61, shown(-1, line)),
	}
	for _, mem := range badMemories() {
		list = append(list, impl.Buffer{Cells: mem}, impl.Buffer{Cells: mem, Exports: []impl.Export{shown(-1, vw(0, ints(0), 1))}})
	}
	for _, bad := range badViews() {
		list = append(list, bufferOf(60, hidden(-1, bad)), bufferOf(60, shown(-1, line), shown(0, bad)), bufferOf(60, shown(-1, bad), shown(-1, line)))
	}
	for _, b := range someOf(manyBuffers(), 43) {
		list = append(list, slices.DeleteFunc(nearBuffers(b), plainBuffer)...)
	}
	return list
})

// badIds returns numbers that are no indices of n exports.
func badIds(n int) []int {
	return []int{n, n + 1, -2, -n - 1, 8, 60, math.MaxInt, math.MinInt}
}

// checkBuffer fails if a result is not the buffer want, or if this one is not valid.
func checkBuffer(t *testing.T, what string, of any, got impl.Buffer, ok bool, want impl.Buffer) {
	t.Helper()
	if !ok || !sameBuffers(got, want) {
		t.Fatalf("%s of %v = %v, %v, not %v", what, of, got, ok, want)
	}
	if !plainBuffer(got) || !impl.ValidBuffer(got) {
		t.Fatalf("%s of %v = %v, which is not valid", what, of, got)
	}
}

// checkNoBuffer fails if a result is not the zero value and false.
func checkNoBuffer(t *testing.T, what string, of any, got impl.Buffer, ok bool) {
	t.Helper()
	if ok || !sameBuffers(got, impl.Buffer{}) {
		t.Fatalf("%s of %v = %v, %v", what, of, got, ok)
	}
}

// actWords are the words of the acts, and actNeeds are how many numbers follow them.
var (
	actWords = []string{"size", "view", "part", "flip", "fill", "copy", "load", "free"}
	actNeeds = []int{1, 3, 4, 1, 2, 2, 1, 1}
)

// actNumbers returns numbers of acts, those at the limits included.
func actNumbers() []int {
	return []int{-100, -99, -61, -10, -2, -1, 0, 1, 3, 9, 10, 60, 99, 100}
}

// manyActs returns valid acts of all kinds.
var manyActs = sync.OnceValue(func() []impl.Act {
	var list []impl.Act
	for kind, need := range actNeeds {
		for _, nums := range tuples(actNumbers(), need) {
			list = append(list, act(kind, nums...))
		}
		for num := -100; num <= 100; num++ {
			list = append(list, act(kind, slices.Repeat(ints(num), need)...))
		}
	}
	return list
})

// actsFor returns valid acts, few enough to go through all of them for each buffer: some of them are possible for it.
var actsFor = sync.OnceValue(func() []impl.Act {
	var list []impl.Act
	for _, kind := range []int{impl.AcSize, impl.AcFlip, impl.AcLoad, impl.AcFree} {
		for num := -2; num <= 9; num++ {
			list = append(list, act(kind, num))
		}
	}
	list = append(list, act(impl.AcSize, 60), act(impl.AcSize, 61), act(impl.AcSize, 100), act(impl.AcSize, -100))
	for id := range 5 {
		for _, value := range []int{0, 7, 100, -1} {
			list = append(list, act(impl.AcFill, id, value))
		}
		for other := -1; other < 5; other++ {
			list = append(list, act(impl.AcCopy, id, other))
		}
		for _, nums := range [][]int{{0, 2, 1}, {1, 100, 2}, {-1, -100, -1}, {0, 0, 1}, {-3, -1, 1}, {0, 3, 0}, {100, -100, -100}} {
			list = append(list, act(impl.AcPart, inserted(nums, 0, id)...))
		}
	}
	for _, nums := range [][]int{{0, 1, 1}, {0, 3, 1}, {2, 2, -2}, {5, 6, -1}, {59, 60, -1}, {0, 60, 1}, {0, 60, 0}, {60, 0, 60}, {60, 1, 0}, {61, 0, 1}, {0, 61, 0}, {0, -1, 1}, {-1, 0, 1}, {0, 0, 61}, {0, 1, -60}, {3, 2, -4}} {
		list = append(list, act(impl.AcView, nums...))
	}
	return list
})

// badActs returns acts that are not valid: of kinds that are none, with other numbers of numbers, and with numbers that are too great.
var badActs = sync.OnceValue(func() []impl.Act {
	var list []impl.Act
	for _, kind := range []int{-1, 8, 9, 100, -8, math.MaxInt, math.MinInt} {
		for n := range 6 {
			list = append(list, act(kind, make([]int, n)...))
		}
	}
	for kind, need := range actNeeds {
		for n := range 61 {
			if n != need {
				list = append(list, act(kind, make([]int, n)...))
			}
		}
		for k := range need {
			for _, num := range []int{101, -101, 255, 1 << 32, math.MaxInt, math.MinInt} {
				list = append(list, act(kind, with(make([]int, need), k, num)...))
			}
		}
	}
	return list
})

// plainSpaced returns a word and numbers, with a space between each two of them.
func plainSpaced(word string, nums []int) string {
	words := []string{word}
	for _, num := range nums {
		words = append(words, strconv.Itoa(num))
	}
	return strings.Join(words, " ")
}

// plainText returns the text of a valid act.
func plainText(a impl.Act) string {
	return plainSpaced(actWords[a.Kind], a.Nums)
}

// actPattern tells the texts of acts.
var actPattern = regexp.MustCompile(`\A(?:(?:size|flip|load|free)(?: N){1}|(?:fill|copy)(?: N){2}|view(?: N){3}|part(?: N){4})\z`)

// numberPattern tells the texts of the numbers of acts.
var numberPattern = regexp.MustCompile(`\A(?:0|-?[1-9][0-9]?|-?100)\z`)

// plainIsAct reports whether a text is that of an act.
func plainIsAct(s string) bool {
	words := strings.Split(s, " ")
	for k, word := range words[1:] {
		if !numberPattern.MatchString(word) {
			return false
		}
		words[k+1] = "N"
	}
	return actPattern.MatchString(strings.Join(words, " "))
}

// plainLines returns the lines of a text that are acts, up to the first one that is not, or does not end with a newline.
func plainLines(s string) []string {
	lines := strings.Split(s, "\n")
	lines = lines[:len(lines)-1]
	for k, line := range lines {
		if k == 60 || !plainIsAct(line) {
			return lines[:k]
		}
	}
	return lines
}

// storyExport is an export of one dimension, told by its cells.
type storyExport struct {
	cells  []int
	parent int
	isOpen bool
}

// story is a buffer that is acted on, without any views.
type story struct {
	cells   []int
	exports []storyExport
}

// isOpen reports whether a story has an open export.
func (s *story) isOpen(id int) bool {
	return id >= 0 && id < len(s.exports) && s.exports[id].isOpen
}

// hangs reports whether an open export hangs on an export, or on the buffer for -1.
func (s *story) hangs(id int) bool {
	return slices.ContainsFunc(s.exports, func(e storyExport) bool { return e.isOpen && e.parent == id })
}

// exported adds an export to a story, and answers.
func (s *story) exported(parent int, cells []int) string {
	if len(s.exports) == 8 {
		return "no"
	}
	s.exports = append(s.exports, storyExport{cells, parent, true})
	return "at " + strconv.Itoa(len(s.exports)-1)
}

// sized gives a story another size, and answers.
func (s *story) sized(n int) string {
	if n < 0 || n > 60 || slices.ContainsFunc(s.exports, func(e storyExport) bool { return e.isOpen }) {
		return "no"
	}
	s.cells = append(slices.Clone(s.cells), make([]int, 60)...)[:n]
	return "ok"
}

// viewed exports a line of a story, and answers.
func (s *story) viewed(v impl.View) string {
	if !plainValid(v) || !plainFits(v, len(s.cells)) {
		return "no"
	}
	return s.exported(-1, plainCells(v))
}

// stored stores values in cells of a story, and answers.
func (s *story) stored(cells []int, values []int) string {
	if len(cells) != len(values) || slices.ContainsFunc(values, func(x int) bool { return x < 0 || x > 255 }) {
		return "no"
	}
	s.cells = plainStored(s.cells, cells, values)
	return "ok"
}

// loaded answers with the values of cells of a story.
func (s *story) loaded(cells []int) string {
	return plainSpaced("has", chosen(s.cells, cells))
}

// acted does an act on an open export of a story, and answers.
func (s *story) acted(word string, n []int) string {
	e := s.exports[n[0]]
	switch {
	case word == "part" && n[3] != 0:
		return s.exported(n[0], chosen(e.cells, plainIndices(len(e.cells), between(n[1], n[2], n[3]))))
	case word == "flip":
		return s.exported(n[0], backward(e.cells))
	case word == "fill" && n[1] >= 0:
		return s.stored(e.cells, slices.Repeat(ints(n[1]), len(e.cells)))
	case word == "copy" && s.isOpen(n[1]):
		return s.stored(e.cells, chosen(s.cells, s.exports[n[1]].cells))
	case word == "load":
		return s.loaded(e.cells)
	case word == "free" && !s.hangs(n[0]):
		s.exports[n[0]].isOpen = false
		return "ok"
	}
	return "no"
}

// play does the act of a line, and answers.
func (s *story) play(line string) string {
	words := strings.Split(line, " ")
	var n []int
	for _, word := range words[1:] {
		num, _ := strconv.Atoi(word)
		n = append(n, num)
	}
	switch {
	case words[0] == "size":
		return s.sized(n[0])
	case words[0] == "view":
		return s.viewed(vw(n[0], ints(n[1]), n[2]))
	case s.isOpen(n[0]):
		return s.acted(words[0], n)
	}
	return "no"
}

// plainRun returns the story of a text, and the answers to its acts.
func plainRun(s string) (*story, []string) {
	told, answers := &story{}, []string{}
	for _, line := range plainLines(s) {
		answers = append(answers, told.play(line))
	}
	return told, answers
}

// dice gives numbers that look mixed, and are the same ones each time.
type dice struct{ state uint32 }

// roll returns a number in 0 up to n, less 1.
func (d *dice) roll(n int) int {
	d.state = d.state*1664525 + 1013904223
	return int(d.state>>8) % n
}

// line returns the text of an act that is often possible.
func (d *dice) line() string {
	id := func() int { return d.roll(5) - d.roll(9)/8 }
	end := func() int { return d.roll(15) - 7 }
	switch d.roll(11) {
	case 0:
		return plainText(act(impl.AcSize, ints(0, 3, 8, 8, 20, 60, 61, -1)[d.roll(8)]))
	case 1, 2:
		return plainText(act(impl.AcView, d.roll(9), d.roll(6)-d.roll(9)/8, d.roll(5)-2))
	case 3, 4:
		return plainText(act(impl.AcPart, id(), end(), end(), d.roll(6)-2))
	case 5:
		return plainText(act(impl.AcFlip, id()))
	case 6:
		return plainText(act(impl.AcFill, id(), d.roll(101)-d.roll(5)))
	case 7:
		return plainText(act(impl.AcCopy, id(), id()))
	case 8, 9:
		return plainText(act(impl.AcLoad, id()))
	}
	return plainText(act(impl.AcFree, id()))
}

// badLines returns lines that are no acts.
func badLines() []string {
	list := []string{
		"", " ", "what", "Size 1", "SIZE 1", "sizes 1", "siz 1", "siz", "1 size", "1", "0 0", "-", "ok", "at 0", "has",
		" size 1", "size 1 ", "size  1", "size\t1", "size 1\r", "size 1\t", "\tsize 1", "size 1\x00", "size1", "size,1", "size 1,", "\ufeffsize 1", "size\u00a01", "size 1 # one",
		"size", "size ", "size 1 2", "view 1 2", "view 1 2 3 4", "part 0 1 2", "part 0 1 2 3 4", "flip", "flip 0 0", "fill 0", "fill 0 1 2", "copy 0", "copy", "copy 0 1 2", "load", "load 0 0", "free", "free 0 0",
		"size +1", "size -0", "size 00", "size 01", "size -01", "size 1.0", "size 1e1", "size 0x1", "size 1_0", "size --1", "size - 1", "size one", "size \u0661", "size \uff11", "size \u22121",
		"size 101", "size -101", "size 100 ", "size 1000", "size 9223372036854775807", "size -9223372036854775808", "size 9223372036854775808", "size 99999999999999999999999999", "fill 0 101", "fill 101 0", "view 0 0 -101", "part 0 0 101 1", "copy 0 -101",
	}
	return append(list, "size "+strings.Repeat("0", 100), "size"+strings.Repeat(" 1", 100), strings.Repeat("size 1 ", 100), strings.Repeat(" ", 100))
}

// manyTexts returns texts of acts: none, many, and too many, and such that end with lines that are no acts, or have no newline.
var manyTexts = sync.OnceValue(func() []string {
	list := []string{
		"", "\n", "\n\n", "size 5", "size 5\n", "size 5\n\n", "\nsize 5\n", "size 5\r\nsize 6\r\n", "size 5\nsize 6", "size 5\nsize 6\nload", "size 5\n size 6\nsize 7\n",
		strings.Repeat("size 1\n", 59), strings.Repeat("size 1\n", 60), strings.Repeat("size 1\n", 61), strings.Repeat("size 1\nsize 2\n", 60), strings.Repeat("size 1\n", 60) + "what\n", strings.Repeat("size 1\n", 59) + "size 7\nsize 8\n",
		"size 60\n" + strings.Repeat("view 0 60 1\n", 9) + strings.Repeat("load 7\n", 60),
		"size 6\nview 0 6 1\n" + strings.Repeat("part 6 0 3 1\nflip 0\n", 10) + "free 0\nfree 7\nfree 6\nfree 5\nfree 4\nfree 3\nfree 2\nfree 1\nfree 0\nsize 3\nview 0 3 1\n",
	}
	for _, bad := range badLines() {
		list = append(list, bad, bad+"\n", "size 5\nview 0 5 1\n"+bad+"\nload 0\n", "size 5\n"+bad)
	}
	d := &dice{}
	for n := range 600 {
		lines := []string{"size " + strconv.Itoa(ints(8, 9, 12, 60)[n%4]), "view 0 8 1"}
		for range n % 70 {
			lines = append(lines, d.line())
		}
		if n%5 == 0 {
			lines = slices.Insert(lines, d.roll(len(lines)), badLines()[n/5%len(badLines())])
		}
		list = append(list, strings.Join(lines, "\n")+[]string{"\n", "", "\n\n", "\nload 0"}[max(n%8-4, 0)])
	}
	return list
})
