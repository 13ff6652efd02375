package impl

// MaxBound is the greatest number of a range.
const MaxBound = 100

// MaxStep is the greatest step of a range.
const MaxStep = 200

// MaxCells is the largest number of cells of a memory.
const MaxCells = 60

// MaxWays is the largest number of ranges to which numbers are dealt.
const MaxWays = 6

// Range is a range: its start, its stop, and its step.
type Range struct {
	Start int
	Stop  int
	Step  int
}

// Slice is a slice: its ends, whether they are given, and its step.
type Slice struct {
	From    int
	To      int
	By      int
	HasFrom bool
	HasTo   bool
}

// within reports whether x is in -limit..limit.
func within(x int, limit int) bool {
	return -limit <= x && x <= limit
}

// validStep reports whether step can be the step of a range or of a slice.
func validStep(step int) bool {
	return within(step, MaxStep) && step != 0
}

// progression returns the range in normal form of n numbers from first on, each greater by step than the one before it.
func progression(first int, step int, n int) Range {
	if n < 1 {
		return Range{Start: 0, Stop: 0, Step: 1}
	}
	if n == 1 {
		return Range{Start: first, Stop: first + 1, Step: 1}
	}
	last := first + (n-1)*step
	if step < 0 {
		return Range{Start: first, Stop: last - 1, Step: step}
	}
	return Range{Start: first, Stop: last + 1, Step: step}
}

// count returns how many numbers the valid range has.
func (r Range) count() int {
	width, step := r.Stop-r.Start, r.Step
	if step < 0 {
		width, step = -width, -step
	}
	if width <= 0 {
		return 0
	}
	return (width + step - 1) / step
}

// at returns the number of the range with the index i.
func (r Range) at(i int) int {
	return r.Start + i*r.Step
}

// numbers returns the numbers of the valid range, in order.
func (r Range) numbers() []int {
	list := make([]int, r.count())
	for i := range list {
		list[i] = r.at(i)
	}
	return list
}

// place returns the index of x in the valid range, -1 if it is none of its numbers.
func (r Range) place(x int) int {
	// No number of a range is beyond the bound, and the difference of one that is may overflow.
	if !within(x, MaxBound) || (x-r.Start)%r.Step != 0 {
		return -1
	}
	i := (x - r.Start) / r.Step
	if i < 0 || i >= r.count() {
		return -1
	}
	return i
}

// take returns the range in normal form of the numbers of the valid range at the valid range of indices.
func (r Range) take(indices Range) Range {
	return progression(r.at(indices.Start), r.Step*indices.Step, indices.count())
}

// normal returns the valid range in normal form.
func (r Range) normal() Range {
	return progression(r.Start, r.Step, r.count())
}

// reversed returns the valid range in normal form, in reverse order.
func (r Range) reversed() Range {
	n := r.count()
	return progression(r.at(n-1), -r.Step, n)
}

// ascending returns the valid range in normal form, from the least number to the greatest.
func (r Range) ascending() Range {
	if r.Step < 0 {
		return r.reversed()
	}
	return r.normal()
}

// ValidRange reports whether a range is valid.
func ValidRange(r Range) bool {
	return within(r.Start, MaxBound) && within(r.Stop, MaxBound+1) && validStep(r.Step)
}

// LenOf returns how many numbers a range has.
func LenOf(r Range) int {
	if !ValidRange(r) {
		return -1
	}
	return r.count()
}

// NumbersOf returns the numbers of a range.
func NumbersOf(r Range) []int {
	if !ValidRange(r) {
		return nil
	}
	return r.numbers()
}

// NumberAt returns the number of a range with an index.
func NumberAt(r Range, i int) (int, bool) {
	if !ValidRange(r) {
		return 0, false
	}
	n := r.count()
	if i < 0 {
		i += n
	}
	if i < 0 || i >= n {
		return 0, false
	}
	return r.at(i), true
}

// PlaceOf returns the index of a number in a range.
func PlaceOf(r Range, x int) int {
	if !ValidRange(r) {
		return -1
	}
	return r.place(x)
}

// NormalRange returns a range in normal form.
func NormalRange(r Range) Range {
	if !ValidRange(r) {
		return Range{}
	}
	return r.normal()
}

// ReverseRange returns a range in reverse order.
func ReverseRange(r Range) Range {
	if !ValidRange(r) {
		return Range{}
	}
	return r.reversed()
}

// endOf returns the end of a slice of n things as an index, from low up to high.
func endOf(end int, n int, low int, high int) int {
	if end < 0 {
		end += n
	}
	return min(max(end, low), high)
}

// over returns the range of the indices that the valid slice takes of n things.
func (s Slice) over(n int) Range {
	low, high := 0, n
	r := Range{Start: low, Stop: high, Step: s.By}
	if s.By < 0 {
		// A slice that goes down runs from the last index to just before index 0.
		low, high = -1, n-1
		r.Start, r.Stop = high, low
	}
	if s.HasFrom {
		r.Start = endOf(s.From, n, low, high)
	}
	if s.HasTo {
		r.Stop = endOf(s.To, n, low, high)
	}
	return r
}

// validEnd reports whether an end of a slice is valid.
func validEnd(end int, given bool) bool {
	return within(end, MaxBound) && (given || end == 0)
}

// ValidSlice reports whether a slice is valid.
func ValidSlice(s Slice) bool {
	return validEnd(s.From, s.HasFrom) && validEnd(s.To, s.HasTo) && validStep(s.By)
}

// validCount reports whether n things can be sliced.
func validCount(n int) bool {
	return 0 <= n && n <= MaxCells
}

// IndicesOf returns the indices that a slice takes.
func IndicesOf(n int, s Slice) []int {
	if !validCount(n) || !ValidSlice(s) {
		return nil
	}
	return s.over(n).numbers()
}

// SliceRange returns what a slice takes of a range.
func SliceRange(r Range, s Slice) Range {
	if !ValidRange(r) || !ValidSlice(s) || !validCount(r.count()) {
		return Range{}
	}
	return r.take(s.over(r.count()))
}

// MergeSlices returns one slice for two.
func MergeSlices(n int, a Slice, b Slice) Slice {
	if !validCount(n) || !ValidSlice(a) || !ValidSlice(b) {
		return Slice{}
	}
	first := a.over(n)
	both := first.take(b.over(first.count()))
	merged := Slice{From: both.Start, To: both.Stop, By: both.Step, HasFrom: true, HasTo: true}
	if both.Stop == -1 {
		// As an end, -1 would mean the last index.
		merged.To, merged.HasTo = 0, false
	}
	return merged
}

// commonMultiple returns the least common multiple of two numbers of at least 1.
func commonMultiple(a int, b int) int {
	x, y := a, b
	for y > 0 {
		x, y = y, x%y
	}
	return a / x * b
}

// meet returns the range in normal form of the numbers that two valid ascending ranges have.
func (r Range) meet(other Range) Range {
	for i := range r.count() {
		first := r.at(i)
		if other.place(first) < 0 {
			continue
		}
		step := commonMultiple(r.Step, other.Step)
		width := min(r.Stop, other.Stop) - 1 - first
		return progression(first, step, width/step+1)
	}
	return progression(0, 1, 0)
}

// MeetRanges returns the numbers that two ranges have.
func MeetRanges(a Range, b Range) Range {
	if !ValidRange(a) || !ValidRange(b) {
		return Range{}
	}
	return a.ascending().meet(b.ascending())
}

// CoversRange reports whether a range has all numbers of another one.
func CoversRange(a Range, b Range) bool {
	if !ValidRange(a) || !ValidRange(b) {
		return false
	}
	return MeetRanges(a, b) == b.ascending()
}

// SumOf returns the sum of the numbers of a range.
func SumOf(r Range) int {
	if !ValidRange(r) {
		return 0
	}
	n := r.count()
	return n * (r.at(0) + r.at(n-1)) / 2
}

// DealRange returns ranges to which the numbers of a range are dealt.
func DealRange(r Range, ways int) []Range {
	if !ValidRange(r) || ways < 1 || ways > MaxWays {
		return nil
	}
	list := make([]Range, ways)
	for i := range list {
		list[i] = r.take(Range{Start: i, Stop: r.count(), Step: ways})
	}
	return list
}
