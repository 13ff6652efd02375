package tests

import (
	"math"
	"slices"
	"sync"
	"testing"

	"loop.example/strideviews/impl"
)

// tensor returns a tensor.
func tensor(shape []int, values ...int) impl.Tensor {
	return impl.Tensor{Shape: shape, Values: values}
}

// sameTensors reports whether two tensors are equal in both fields.
func sameTensors(a impl.Tensor, b impl.Tensor) bool {
	return slices.Equal(a.Shape, b.Shape) && slices.Equal(a.Values, b.Values)
}

// isNoTensor reports whether a tensor is the zero value.
func isNoTensor(t impl.Tensor) bool {
	return sameTensors(t, impl.Tensor{})
}

// filledTensor returns a tensor of a shape with different values, some of which are negative, and others for each seed.
func filledTensor(shape []int, seed int) impl.Tensor {
	values := make([]int, plainProduct(shape))
	for k := range values {
		values[k] = (5+29*k+17*seed)%67 - 30
	}
	return tensor(shape, values...)
}

// filledMatrix returns a tensor of two dimensions with different values.
func filledMatrix(rows int, cols int, seed int) impl.Tensor {
	return filledTensor(ints(rows, cols), seed)
}

// network is a contraction: tensors, the labels of each, and those of the result.
type network struct {
	list   []impl.Tensor
	labels [][]int
	out    []int
}

// to returns the network with another result.
func (n network) to(out ...int) network {
	return network{n.list, n.labels, out}
}

// spread returns the extents of five labels in a network, -1 for those that are not used.
func (n network) spread() []int {
	extents := slices.Repeat(ints(-1), 5)
	for i, t := range n.list {
		for d, label := range n.labels[i] {
			extents[label] = t.Shape[d]
		}
	}
	return extents
}

// used returns the labels of a network, ascending.
func (n network) used() []int {
	return slices.Compact(slices.Sorted(slices.Values(slices.Concat(n.labels...))))
}

// networkOf returns a network of tensors whose labels have some extents.
func networkOf(extents []int, out []int, labels ...[]int) network {
	n := network{labels: labels, out: out}
	for i, some := range labels {
		n.list = append(n.list, filledTensor(chosen(extents, some), i))
	}
	return n
}

// vectorsOfOnes returns a network of tensors of one dimension, each with a label of its own, whose values are all 1.
func vectorsOfOnes(extents ...int) network {
	var n network
	for label, extent := range extents {
		n.list = append(n.list, tensor(ints(extent), slices.Repeat(ints(1), extent)...))
		n.labels = append(n.labels, ints(label))
	}
	return n
}

// plainEntry returns the value of a tensor at an index.
func plainEntry(t impl.Tensor, index []int) int {
	at := 0
	for d, i := range index {
		at = at*t.Shape[d] + i
	}
	return t.Values[at]
}

// plainTimesAll returns the product of the values of all tensors of a network at the numbers of their labels.
func (n network) plainTimesAll(numbers []int) int {
	value := 1
	for i, t := range n.list {
		value *= plainEntry(t, chosen(numbers, n.labels[i]))
	}
	return value
}

// plainSum returns the contraction of a network, whatever its shape, its values and its cost are: a walk through all numbers of its labels adds to one value at a time.
func (n network) plainSum() impl.Tensor {
	used, extents := n.used(), n.spread()
	shape := chosen(extents, n.out)
	indices := plainWalk(shape)
	values := make([]int, len(indices))
	for _, some := range plainWalk(chosen(extents, used)) {
		numbers := make([]int, 5)
		for k, label := range used {
			numbers[label] = some[k]
		}
		index := chosen(numbers, n.out)
		k := slices.IndexFunc(indices, func(other []int) bool { return slices.Equal(other, index) })
		values[k] += n.plainTimesAll(numbers)
	}
	return tensor(shape, values...)
}

// plainIsTensor reports whether a tensor is valid.
func plainIsTensor(t impl.Tensor) bool {
	if !plainShape(t.Shape) || len(t.Values) != plainProduct(t.Shape) {
		return false
	}
	return !slices.ContainsFunc(t.Values, func(value int) bool { return value < -1000000 || value > 1000000 })
}

// plainContract returns the contraction of a network of valid tensors with labels that agree, and whether it is possible.
func (n network) plainContract() (impl.Tensor, bool) {
	outUsed := !slices.ContainsFunc(n.out, func(label int) bool { return !slices.Contains(n.used(), label) })
	if !isOnce(n.out) || !outUsed || !plainShape(chosen(n.spread(), n.out)) || n.plainCost() > 4000 {
		return impl.Tensor{}, false
	}
	t := n.plainSum()
	if !plainIsTensor(t) {
		return impl.Tensor{}, false
	}
	return t, true
}

// plainCost returns how many ways there are to give numbers to the labels of a network.
func (n network) plainCost() int {
	return plainProduct(chosen(n.spread(), n.used()))
}

// plainKept returns the labels of two tensors of a network that are needed after them.
func (n network) plainKept(i int, j int) []int {
	var list []int
	for label := range 5 {
		needed := slices.Contains(n.out, label)
		for k, labels := range n.labels {
			needed = needed || k != i && k != j && slices.Contains(labels, label)
		}
		if needed && (slices.Contains(n.labels[i], label) || slices.Contains(n.labels[j], label)) {
			list = append(list, label)
		}
	}
	return list
}

// first returns the network of two tensors of a network, which has those of their labels that are needed later.
func (n network) first(i int, j int) network {
	return network{[]impl.Tensor{n.list[i], n.list[j]}, [][]int{n.labels[i], n.labels[j]}, n.plainKept(i, j)}
}

// second returns the network of a tensor made of two of a network, and of the others.
func (n network) second(i int, j int, made impl.Tensor) network {
	after := network{[]impl.Tensor{made}, [][]int{n.plainKept(i, j)}, n.out}
	for k, t := range n.list {
		if k != i && k != j {
			after.list = append(after.list, t)
			after.labels = append(after.labels, n.labels[k])
		}
	}
	return after
}

// plainBy returns the contraction of a network, two tensors first, and whether it is possible.
func (n network) plainBy(i int, j int) (impl.Tensor, bool) {
	made, ok := n.first(i, j).plainContract()
	if !ok {
		return impl.Tensor{}, false
	}
	return n.second(i, j, made).plainContract()
}

// plainCostBy returns what a contraction of a network costs, two tensors first.
func (n network) plainCostBy(i int, j int) int {
	// Just the shape of the tensor that is made matters, and it may be too large.
	made := tensor(chosen(n.spread(), n.plainKept(i, j)))
	return n.first(i, j).plainCost() + n.second(i, j, made).plainCost()
}

// plainBest returns the two tensors of a network that cost least, by a walk back from the last two.
func (n network) plainBest() (int, int) {
	first, second := -1, -1
	for i := len(n.list) - 1; i >= 0; i-- {
		for j := len(n.list) - 1; j > i; j-- {
			if first < 0 || n.plainCostBy(i, j) <= n.plainCostBy(first, second) {
				first, second = i, j
			}
		}
	}
	return first, second
}

// pairsIn returns the indices of two different tensors of a network, in both orders.
func (n network) pairsIn() [][2]int {
	var list [][2]int
	for i := range n.list {
		for j := range n.list {
			if i != j {
				list = append(list, [2]int{i, j})
			}
		}
	}
	return list
}

// partsOf returns all lists of different ones of some labels, in all orders.
func partsOf(labels []int) [][]int {
	var list [][]int
	for n := range len(labels) + 1 {
		for _, some := range tuples(labels, n) {
			if isOnce(some) {
				list = append(list, some)
			}
		}
	}
	return list
}

// labelLists returns lists of labels for one up to three tensors of few dimensions.
func labelLists() [][][]int {
	ofDims := func(labels []int, most int) [][]int {
		var list [][]int
		for n := range most + 1 {
			list = append(list, tuples(labels, n)...)
		}
		return list
	}
	var list [][][]int
	for _, a := range append(ofDims(ints(0, 2, 4), 3), ints(1, 3, 1, 3), ints(4, 3, 2, 1), ints(2, 2, 2, 2)) {
		list = append(list, [][]int{a})
	}
	for _, a := range ofDims(ints(0, 2, 4), 2) {
		for _, b := range ofDims(ints(4, 0, 2), 2) {
			list = append(list, [][]int{a, b})
		}
	}
	some := ofDims(ints(1, 3, 4), 2)
	for k, c := range tuples(firstNumbers(len(some)), 3) {
		if k%7 == 0 {
			list = append(list, chosenOf(some, c))
		}
	}
	return append(list, [][]int{{0, 1, 2}, {1, 2, 3}, {2, 3, 4}}, [][]int{{0, 1}, {2, 3}, {4}}, [][]int{{0, 1, 2, 3}, {3, 4}}, [][]int{{4, 3}, {3, 2, 1, 0}, {4, 0}}, [][]int{{1, 0}, {0, 1}, {0, 0, 1, 1}})
}

// chosenOf returns the elements of a list at some indices, in order.
func chosenOf[T any](list []T, indices []int) []T {
	var out []T
	for _, i := range indices {
		out = append(out, list[i])
	}
	return out
}

// extentLists returns extents of five labels: of all kinds, with 0 and 1, and all equal.
func extentLists() [][]int {
	return [][]int{{2, 3, 1, 2, 3}, {3, 0, 2, 1, 2}, {2, 2, 3, 4, 0}, {2, 2, 2, 2, 2}}
}

// fits reports whether all tensors of a network are valid.
func (n network) fits() bool {
	return !slices.ContainsFunc(n.list, func(t impl.Tensor) bool { return !plainIsTensor(t) })
}

// manyNetworks returns networks with labels that come several times in one tensor, in one only and in all of them, with extents of 0, and with results of no labels, of some and of all of them in each order.
var manyNetworks = sync.OnceValue(func() []network {
	var list []network
	for i, labels := range labelLists() {
		for k, extents := range extentLists() {
			n := networkOf(extents, nil, labels...)
			if !n.fits() || len(labels) == 3 && (i+k)%2 == 1 {
				continue
			}
			for _, out := range partsOf(n.used()) {
				list = append(list, n.to(out...))
			}
		}
	}
	return list
})

// bigNetworks returns networks at the limits: with as many ways as are allowed and more, with shapes and values that are too great, and some that are possible only all at once, or only two by two.
func bigNetworks() []network {
	full := func(extent int, value int) impl.Tensor {
		return tensor(ints(extent), slices.Repeat(ints(value), extent)...)
	}
	top := tensor(nil, 1000000)
	return []network{
		// 4000 ways, 3600 ways, and a few more than 4000.
		networkOf(ints(20, 20, 10), nil, ints(0), ints(1), ints(2)), networkOf(ints(20, 20, 10), ints(2), ints(0), ints(1), ints(2)), networkOf(ints(20, 20, 10), ints(2, 2), ints(0), ints(1), ints(2)),
		networkOf(ints(29, 46, 3), nil, ints(0), ints(1), ints(2)), networkOf(ints(29, 46, 3), ints(2), ints(0), ints(1), ints(2)), networkOf(ints(60, 60, 2), ints(1), ints(0), ints(2), ints(1)),
		networkOf(ints(60, 60), ints(0), ints(0), ints(1)), networkOf(ints(60, 60), ints(1, 0), ints(0), ints(1)), networkOf(ints(60, 60, 60), nil, ints(0), ints(1), ints(2)),
		// No ways at all, but many on the way to that.
		networkOf(ints(60, 60, 60, 60, 0), nil, ints(0, 1, 4), ints(2, 3, 4)), networkOf(ints(60, 60, 60, 60, 0), ints(0), ints(0, 1, 2, 4), ints(3)), networkOf(ints(60, 60, 60, 60, 0), ints(0, 1), ints(0, 1, 4), ints(2, 3, 4)), networkOf(ints(60, 60, 60, 60, 0), ints(4, 0, 1, 2), ints(0, 1, 4), ints(2, 3, 4)), networkOf(ints(60, 60, 60, 60, 0), ints(0, 1, 2, 3), ints(0, 1, 4), ints(2, 3, 4)),
		// Results of 60 values, of more, and of as many labels as there are.
		networkOf(ints(6, 7, 8, 7, 2), ints(0, 2), ints(0, 1), ints(1, 2), ints(2, 3)), networkOf(ints(6, 7, 8, 7, 2), ints(0, 3), ints(0, 1), ints(1, 2), ints(2, 3)), networkOf(ints(4, 3, 5), ints(2, 0, 1), ints(0, 1), ints(1, 2)), networkOf(ints(4, 3, 6), ints(2, 0, 1), ints(0, 1), ints(1, 2)),
		networkOf(ints(1, 1, 1, 1, 1), ints(0, 1, 2, 3, 4), ints(0, 1, 2, 3), ints(4)), networkOf(ints(1, 2, 1, 2, 1), ints(4, 3, 2, 1), ints(0, 1, 2, 3), ints(4)), networkOf(ints(1, 1, 1, 2, 1), ints(3), ints(0, 1, 2, 3), ints(0, 1, 2, 4), ints(4, 3, 0)), networkOf(ints(1, 1, 1, 1, 1), ints(4, 3), ints(0, 1), ints(2, 3), ints(4)),
		// Values at the limits, beyond them, and beyond them only before others are added or multiplied.
		{[]impl.Tensor{top, tensor(nil, 1)}, [][]int{{}, {}}, nil}, {[]impl.Tensor{top, tensor(nil, 2)}, [][]int{{}, {}}, nil}, {[]impl.Tensor{top, tensor(nil, -1), tensor(nil, 1)}, [][]int{{}, {}, {}}, nil},
		{[]impl.Tensor{top, tensor(nil, 2), tensor(nil, 0)}, [][]int{{}, {}, {}}, nil}, {[]impl.Tensor{full(60, 1000000)}, [][]int{{0}}, nil}, {[]impl.Tensor{full(60, 1000000)}, [][]int{{0}}, ints(0)}, {[]impl.Tensor{full(50, 20000)}, [][]int{{3}}, nil}, {[]impl.Tensor{full(50, -20000)}, [][]int{{3}}, nil},
		{[]impl.Tensor{tensor(ints(2), 1000000, -1000000), full(2, 1000000)}, [][]int{{1}, {1}}, nil}, {[]impl.Tensor{tensor(ints(2), 1000000, -999999), full(2, 1000)}, [][]int{{1}, {1}}, nil}, {[]impl.Tensor{tensor(ints(2), 1000000, -998999), full(2, 1000)}, [][]int{{1}, {1}}, nil},
		{[]impl.Tensor{tensor(ints(2), 1000, 1), full(2, 1000), full(3, 1)}, [][]int{{1}, {1}, {0}}, ints(0)}, {[]impl.Tensor{full(3, 1000), full(3, 1000), tensor(ints(3), 1, 0, 0)}, [][]int{{1}, {1}, {1}}, nil},
	}
}

// badEntries returns numbers that are no values of a tensor.
func badEntries() []int {
	return []int{1000001, -1000001, 1 << 32, 1 << 62, math.MaxInt, math.MinInt, math.MinInt + 1}
}

// badTensors returns tensors that are not valid.
func badTensors() []impl.Tensor {
	list := []impl.Tensor{
		{}, tensor(nil, 1, 2), tensor(ints(2)), tensor(ints(2), 1), tensor(ints(2), 1, 2, 3), tensor(ints(2, 2), 1, 2, 3), tensor(ints(2, 2), 1, 2, 3, 4, 5), tensor(ints(0), 1), tensor(ints(2, 0), 1, 2), tensor(ints(60), make([]int, 59)...), tensor(ints(60), make([]int, 61)...),
	}
	for _, shape := range badShapes() {
		list = append(list, tensor(shape), tensor(shape, 1), tensor(shape, make([]int, 61)...))
		if n := plainProduct(shape); n >= 0 && n <= 10000 {
			list = append(list, tensor(shape, make([]int, n)...))
		}
	}
	for _, value := range badEntries() {
		list = append(list, tensor(nil, value), tensor(ints(1, 1), value))
		for k := range 4 {
			list = append(list, tensor(ints(2, 2), with(ints(0, 0, 0, 0), k, value)...))
		}
		list = append(list, tensor(ints(60), with(make([]int, 60), 59, value)...))
	}
	return list
}

// badLabels returns numbers that are no labels.
func badLabels() []int {
	return []int{-1, 5, 6, -5, 60, 1 << 32, math.MaxInt, math.MinInt}
}

// badNetworks returns networks that cannot be, whatever the labels of the result are: of no tensors, or of too many, of one that is not valid, with labels that are none, too few, too many, or of unequal extents.
func badNetworks() []network {
	a, b, c := filledMatrix(2, 3, 0), filledMatrix(3, 2, 1), tensor(nil, 7)
	list := []network{
		{}, {nil, [][]int{}, nil}, {nil, [][]int{{0, 1}}, nil}, {[]impl.Tensor{a}, nil, nil}, {[]impl.Tensor{c}, nil, nil}, {[]impl.Tensor{c}, [][]int{{}, {}}, nil}, {[]impl.Tensor{a}, [][]int{{0, 1}, {1, 0}}, nil}, {[]impl.Tensor{a, b}, [][]int{{0, 1}}, nil}, {[]impl.Tensor{a, c}, [][]int{{0, 1}}, nil},
		{slices.Repeat([]impl.Tensor{c}, 4), make([][]int, 4), nil}, {slices.Repeat([]impl.Tensor{a}, 4), slices.Repeat([][]int{{0, 1}}, 4), nil}, {slices.Repeat([]impl.Tensor{c}, 60), make([][]int, 60), nil}, {[]impl.Tensor{c, c, c, a}, [][]int{{}, {}, {}, {0, 1}}, nil},
		{[]impl.Tensor{a}, [][]int{{0}}, nil}, {[]impl.Tensor{a}, [][]int{nil}, nil}, {[]impl.Tensor{a}, [][]int{{0, 1, 2}}, nil}, {[]impl.Tensor{c}, [][]int{{0}}, nil}, {[]impl.Tensor{a, b}, [][]int{{0, 1}, {1}}, nil}, {[]impl.Tensor{a, b}, [][]int{{0}, {0, 1, 2}}, nil},
		{[]impl.Tensor{a}, [][]int{{0, 0}}, nil}, {[]impl.Tensor{a, b}, [][]int{{0, 1}, {0, 1}}, nil}, {[]impl.Tensor{a, b}, [][]int{{0, 1}, {2, 1}}, nil}, {[]impl.Tensor{a, c, b}, [][]int{{0, 1}, {}, {2, 1}}, nil}, {[]impl.Tensor{b, b, a}, [][]int{{0, 1}, {0, 1}, {4, 1}}, nil}, {[]impl.Tensor{tensor(ints(0)), tensor(ints(1), 5)}, [][]int{{3}, {3}}, nil}, {[]impl.Tensor{tensor(ints(1), 5), tensor(ints(0))}, [][]int{{3}, {3}}, nil}, {[]impl.Tensor{tensor(ints(0, 2))}, [][]int{{1, 1}}, nil},
	}
	for _, label := range badLabels() {
		list = append(list, network{[]impl.Tensor{a}, [][]int{{0, label}}, nil}, network{[]impl.Tensor{a}, [][]int{{label, 0}}, nil}, network{[]impl.Tensor{b, a, b}, [][]int{{0, 1}, {1, 0}, {label, 2}}, nil}, network{[]impl.Tensor{tensor(ints(0))}, [][]int{{label}}, nil})
	}
	for _, bad := range badTensors() {
		labels := firstNumbers(len(bad.Shape))
		list = append(list, network{[]impl.Tensor{bad}, [][]int{labels}, nil}, network{[]impl.Tensor{c, bad}, [][]int{{}, labels}, nil}, network{[]impl.Tensor{bad, c, c}, [][]int{labels, {}, {}}, nil}, network{[]impl.Tensor{c, c, bad}, [][]int{{}, {}, labels}, nil})
	}
	return list
}

// badPairs returns indices that are not those of two different ones of n tensors.
func badPairs(n int) [][2]int {
	return [][2]int{{0, 0}, {n, 0}, {0, n}, {-1, 0}, {0, -1}, {-1, -1}, {n, n}, {n - 1, n - 1}, {-1, n}, {1, n}, {n, 1}, {math.MaxInt, 0}, {0, math.MaxInt}, {math.MinInt, 0}, {0, math.MinInt}, {-n, 0}, {math.MinInt, math.MaxInt}}
}

// manyTensors returns valid tensors of all shapes, with different values, and with the least and the greatest ones.
var manyTensors = sync.OnceValue(func() []impl.Tensor {
	var list []impl.Tensor
	for k, shape := range manyShapes() {
		list = append(list, filledTensor(shape, k))
	}
	for _, shape := range [][]int{{}, {0}, {1}, {60}, {5, 12}, {3, 4, 5}, {2, 2, 3, 5}, {60, 60, 0}, {0, 60, 60, 60}, {60, 0, 60, 60}, {1, 0, 1}} {
		n := plainProduct(shape)
		list = append(list, tensor(shape, slices.Repeat(ints(1000000), n)...), tensor(shape, slices.Repeat(ints(-1000000), n)...), tensor(shape, make([]int, n)...))
	}
	return list
})

// matricesFor returns matrices with so many rows and columns: with different values, with small ones, and with such that products may be too great.
func matricesFor(rows int, cols int) []impl.Tensor {
	n := rows * cols
	high := slices.Repeat(ints(700, -900), n)[:n]
	return []impl.Tensor{filledMatrix(rows, cols, 1), filledMatrix(rows, cols, 4), tensor(ints(rows, cols), slices.Repeat(ints(1, 0, -2), n)[:n]...), tensor(ints(rows, cols), high...)}
}

// plainTurn returns a tensor with its dimensions in an order.
func plainTurn(t impl.Tensor, order []int) impl.Tensor {
	turned := tensor(chosen(t.Shape, order))
	for _, index := range plainWalk(turned.Shape) {
		back := make([]int, len(order))
		for i, d := range order {
			back[d] = index[i]
		}
		turned.Values = append(turned.Values, plainEntry(t, back))
	}
	return turned
}

// plainSumDim returns a tensor with the sums over a dimension, whatever its shape and its values are.
func plainSumDim(t impl.Tensor, d int) impl.Tensor {
	sums := tensor(without(t.Shape, d))
	for _, index := range plainWalk(sums.Shape) {
		sum := 0
		for i := range t.Shape[d] {
			sum += plainEntry(t, inserted(index, d, i))
		}
		sums.Values = append(sums.Values, sum)
	}
	return sums
}

// sumOfAll adds all numbers of a list.
func sumOfAll(list []int) int {
	sum := 0
	for _, x := range list {
		sum += x
	}
	return sum
}

// checkTensor fails if a result is not the tensor want, or if this one is not valid.
func checkTensor(t *testing.T, what string, of any, got impl.Tensor, ok bool, want impl.Tensor) {
	t.Helper()
	if !ok || !sameTensors(got, want) {
		t.Fatalf("%s of %v = %v, %v, not %v", what, of, got, ok, want)
	}
	if !plainIsTensor(got) || !impl.ValidTensor(got) {
		t.Fatalf("%s of %v = %v, which is not valid", what, of, got)
	}
}

// checkNoTensor fails if a result is not the zero value and false.
func checkNoTensor(t *testing.T, what string, of any, got impl.Tensor, ok bool) {
	t.Helper()
	if ok || !isNoTensor(got) {
		t.Fatalf("%s of %v = %v, %v", what, of, got, ok)
	}
}

// contract returns the contraction of a network.
func (n network) contract() (impl.Tensor, bool) {
	return impl.Contract(n.list, n.labels, n.out)
}

// by returns the contraction of a network, two tensors first.
func (n network) by(i int, j int) (impl.Tensor, bool) {
	return impl.ContractBy(n.list, n.labels, n.out, i, j)
}

// checkContract fails if Contract of a network is not what a walk makes it, and returns it.
func (n network) checkContract(t *testing.T) (impl.Tensor, bool) {
	t.Helper()
	got, ok := n.contract()
	if want, can := n.plainContract(); can {
		checkTensor(t, "Contract", n, got, ok, want)
	} else {
		checkNoTensor(t, "Contract", n, got, ok)
	}
	return got, ok
}

// checkBy fails if ContractBy of a network is not what two walks make it, and returns it.
func (n network) checkBy(t *testing.T, i int, j int) (impl.Tensor, bool) {
	t.Helper()
	got, ok := n.by(i, j)
	if want, can := n.plainBy(i, j); can {
		checkTensor(t, "ContractBy", n, got, ok, want)
	} else {
		checkNoTensor(t, "ContractBy", n, got, ok)
	}
	return got, ok
}
