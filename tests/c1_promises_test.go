package tests

import (
	"slices"
	"testing"

	"loop.example/strideviews/impl"
)

func TestP1NormalFormsAreValid(t *testing.T) {
	for _, r := range manyRanges() {
		if n := impl.NormalRange(r); !impl.ValidRange(n) {
			t.Fatalf("NormalRange(%v) = %v is not valid", r, n)
		}
		if n := impl.ReverseRange(r); !impl.ValidRange(n) {
			t.Fatalf("ReverseRange(%v) = %v is not valid", r, n)
		}
	}
}

func TestP2LengthsAreCounted(t *testing.T) {
	for _, r := range manyRanges() {
		want := len(plainNumbers(r))
		if got := impl.LenOf(r); got != want || got != len(impl.NumbersOf(r)) || got != impl.LenOf(impl.ReverseRange(r)) {
			t.Fatalf("LenOf(%v) = %d, not %d", r, got, want)
		}
		// The number of steps up to the last place ahead of Stop tells it, too.
		told := 0
		if r.Step > 0 && r.Start < r.Stop {
			told = (r.Stop-1-r.Start)/r.Step + 1
		} else if r.Step < 0 && r.Start > r.Stop {
			told = (r.Stop+1-r.Start)/r.Step + 1
		}
		if told != want {
			t.Fatalf("LenOf(%v) = %d, by division %d", r, want, told)
		}
	}
}

func TestP3NumbersGoBySteps(t *testing.T) {
	for _, r := range manyRanges() {
		list := impl.NumbersOf(r)
		if !slices.Equal(list, plainNumbers(r)) {
			t.Fatalf("NumbersOf(%v) = %v", r, list)
		}
		for i, x := range list {
			if x != r.Start+i*r.Step || (r.Stop-x)*r.Step <= 0 {
				t.Fatalf("NumbersOf(%v)[%d] = %d", r, i, x)
			}
		}
		if next := r.Start + len(list)*r.Step; (r.Stop-next)*r.Step > 0 {
			t.Fatalf("NumbersOf(%v) leaves %d out", r, next)
		}
	}
}

func TestP4IndicesFromTheEnd(t *testing.T) {
	for _, r := range manyRanges() {
		list := plainNumbers(r)
		n := len(list)
		for i, want := range list {
			x, ok := impl.NumberAt(r, i)
			y, fromEnd := impl.NumberAt(r, i-n)
			if !ok || !fromEnd || x != want || y != want || impl.PlaceOf(r, x) != i {
				t.Fatalf("NumberAt(%v, %d) = %d, %v and from the end %d, %v", r, i, x, ok, y, fromEnd)
			}
		}
		for _, i := range []int{n, n + 1, -n - 1, -n - 2} {
			if x, ok := impl.NumberAt(r, i); x != 0 || ok {
				t.Fatalf("NumberAt(%v, %d) = %d, %v", r, i, x, ok)
			}
		}
	}
}

func TestP5PlacesAreFoundByDivision(t *testing.T) {
	for _, r := range manyRanges() {
		list := plainNumbers(r)
		for x := -310; x <= 310; x++ {
			want := -1
			if i := (x - r.Start) / r.Step; (x-r.Start)%r.Step == 0 && i >= 0 && i < len(list) {
				want = i
			}
			if got := impl.PlaceOf(r, x); got != want || got != slices.Index(list, x) {
				t.Fatalf("PlaceOf(%v, %d) = %d, not %d", r, x, got, want)
			}
		}
	}
}

func TestP6NormalFormsTellTheNumbers(t *testing.T) {
	byNumbers := map[string]impl.Range{}
	for _, r := range manyRanges() {
		list, n := plainNumbers(r), impl.NormalRange(r)
		if n != plainNormal(list) || !slices.Equal(impl.NumbersOf(n), list) || impl.NormalRange(n) != n {
			t.Fatalf("NormalRange(%v) = %v", r, n)
		}
		key := ""
		for _, x := range list {
			key += string(rune(x + 1000))
		}
		if before, ok := byNumbers[key]; ok && before != n {
			t.Fatalf("NormalRange(%v) = %v, and %v has the same numbers", r, n, before)
		}
		byNumbers[key] = n
	}
}

func TestP7ReversedTwiceIsAsBefore(t *testing.T) {
	for _, r := range manyRanges() {
		v := impl.ReverseRange(r)
		want := backward(plainNumbers(r))
		if v != plainNormal(want) || !slices.Equal(impl.NumbersOf(v), want) || impl.ReverseRange(v) != impl.NormalRange(r) {
			t.Fatalf("ReverseRange(%v) = %v", r, v)
		}
	}
}

func TestP8EndsCanBeLeftOut(t *testing.T) {
	for _, s := range manySlices() {
		noFrom, noTo := s, s
		noFrom.From, noFrom.HasFrom = 0, false
		noTo.To, noTo.HasTo = 0, false
		if !impl.ValidSlice(s) || !impl.ValidSlice(noFrom) || !impl.ValidSlice(noTo) || !impl.ValidSlice(open(s.By)) {
			t.Fatalf("%v is not valid with or without its ends", s)
		}
		// An end that is not given is 0.
		noFrom.From, noTo.To = 1, 1
		if impl.ValidSlice(noFrom) || impl.ValidSlice(noTo) {
			t.Fatalf("%v or %v is valid", noFrom, noTo)
		}
	}
}

func TestP9SlicesTakeWhatIsThere(t *testing.T) {
	for _, n := range manyCounts() {
		for _, s := range manySlices() {
			got := impl.IndicesOf(n, s)
			if !slices.Equal(got, plainIndices(n, s)) {
				t.Fatalf("IndicesOf(%d, %v) = %v, not %v", n, s, got, plainIndices(n, s))
			}
			for k, i := range got {
				if i < 0 || i >= n || k > 0 && i != got[k-1]+s.By {
					t.Fatalf("IndicesOf(%d, %v) = %v", n, s, got)
				}
			}
		}
		if got := impl.IndicesOf(n, open(1)); !slices.Equal(got, firstNumbers(n)) {
			t.Fatalf("IndicesOf(%d) without ends and by 1 = %v", n, got)
		}
	}
}

func TestP10SlicesFallApart(t *testing.T) {
	for n := 0; n <= impl.MaxCells; n++ {
		for end := -impl.MaxBound; end <= impl.MaxBound; end++ {
			got := append(impl.IndicesOf(n, to(end, 1)), impl.IndicesOf(n, from(end, 1))...)
			if !slices.Equal(got, firstNumbers(n)) {
				t.Fatalf("%d things fall apart at %d into %v", n, end, got)
			}
		}
	}
}

func TestP11SlicesOfRangesAreRanges(t *testing.T) {
	for _, r := range someRanges() {
		list := plainNumbers(r)
		for _, s := range someSlices() {
			got := impl.SliceRange(r, s)
			if len(list) > impl.MaxCells {
				if got != (impl.Range{}) {
					t.Fatalf("SliceRange(%v, %v) = %v", r, s, got)
				}
				continue
			}
			want := chosen(list, plainIndices(len(list), s))
			if got != plainNormal(want) || !slices.Equal(impl.NumbersOf(got), want) || !impl.CoversRange(r, got) {
				t.Fatalf("SliceRange(%v, %v) = %v, not that of %v", r, s, got, want)
			}
		}
	}
}

func TestP12TwoSlicesAreOne(t *testing.T) {
	for _, n := range []int{0, 1, 2, 5, 6, 60} {
		for _, a := range someSlices() {
			first := plainIndices(n, a)
			for _, b := range someSlices() {
				m := impl.MergeSlices(n, a, b)
				want := chosen(first, plainIndices(len(first), b))
				if !impl.ValidSlice(m) || !slices.Equal(impl.IndicesOf(n, m), want) {
					t.Fatalf("MergeSlices(%d, %v, %v) = %v, which does not take %v", n, a, b, m, want)
				}
				if form := plainNormal(want); m != between(form.Start, form.Stop, form.Step) && (form.Stop != -1 || m != from(form.Start, form.Step)) {
					t.Fatalf("MergeSlices(%d, %v, %v) = %v is not of the form %v", n, a, b, m, form)
				}
			}
		}
	}
}

// checkPairs calls check with all pairs of some ranges, and with the numbers that both have, ascending.
func checkPairs(check func(a impl.Range, b impl.Range, both []int)) {
	list := someRanges()
	for _, b := range list {
		var has [201]bool
		for _, x := range plainNumbers(b) {
			has[x+100] = true
		}
		for _, a := range list {
			var both []int
			for _, x := range plainNumbers(a) {
				if has[x+100] {
					both = append(both, x)
				}
			}
			slices.Sort(both)
			check(a, b, both)
		}
	}
}

func TestP13RangesMeetInRanges(t *testing.T) {
	checkPairs(func(a impl.Range, b impl.Range, both []int) {
		m := impl.MeetRanges(a, b)
		if m != plainNormal(both) || !slices.Equal(impl.NumbersOf(m), both) || impl.MeetRanges(b, a) != m {
			t.Fatalf("MeetRanges(%v, %v) = %v, not that of %v", a, b, m, both)
		}
	})
}

func TestP14StepsThatMeetAreCommonMultiples(t *testing.T) {
	checkPairs(func(a impl.Range, b impl.Range, both []int) {
		m := impl.MeetRanges(a, b)
		if len(both) >= 2 && (m.Step != both[1]-both[0] || m.Step%a.Step != 0 || m.Step%b.Step != 0) {
			t.Fatalf("MeetRanges(%v, %v) = %v", a, b, m)
		}
	})
}

func TestP15CoveredIsMet(t *testing.T) {
	checkPairs(func(a impl.Range, b impl.Range, both []int) {
		covers := impl.CoversRange(a, b)
		if covers != (len(both) == len(plainNumbers(b))) || covers != (impl.LenOf(impl.MeetRanges(a, b)) == impl.LenOf(b)) {
			t.Fatalf("CoversRange(%v, %v) = %v", a, b, covers)
		}
	})
}

func TestP16SumsAreToldByTheEnds(t *testing.T) {
	for _, r := range manyRanges() {
		sum := 0
		for _, x := range plainNumbers(r) {
			sum += x
		}
		first, _ := impl.NumberAt(r, 0)
		last, _ := impl.NumberAt(r, -1)
		if got := impl.SumOf(r); got != sum || 2*got != impl.LenOf(r)*(first+last) {
			t.Fatalf("SumOf(%v) = %d, not %d", r, got, sum)
		}
	}
}

func TestP17DealtNumbersAreAllThere(t *testing.T) {
	for _, r := range manyRanges() {
		list := plainNumbers(r)
		for ways := 1; ways <= impl.MaxWays; ways++ {
			dealt := impl.DealRange(r, ways)
			if len(dealt) != ways {
				t.Fatalf("DealRange(%v, %d) = %v", r, ways, dealt)
			}
			together := 0
			for k, part := range dealt {
				want := chosen(list, plainNumbers(rng(k, len(list), ways)))
				if part != plainNormal(want) || !slices.Equal(impl.NumbersOf(part), want) {
					t.Fatalf("DealRange(%v, %d)[%d] = %v, not that of %v", r, ways, k, part, want)
				}
				together += impl.LenOf(part)
			}
			if together != len(list) {
				t.Fatalf("DealRange(%v, %d) deals %d numbers", r, ways, together)
			}
		}
	}
}
