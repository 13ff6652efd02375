package tests

import (
	"slices"
	"testing"

	"loop.example/strideviews/impl"
)

func TestLimitsOfContractions(t *testing.T) {
	if impl.MaxEntry != 1000000 || impl.MaxTensors != 3 || impl.MaxLabel != 4 || impl.MaxSpace != 4000 {
		t.Errorf("the limits are %d, %d, %d, %d", impl.MaxEntry, impl.MaxTensors, impl.MaxLabel, impl.MaxSpace)
	}
}

func TestValidTensorValues(t *testing.T) {
	for _, a := range []impl.Tensor{
		tensor(nil, 0), tensor(nil, 1000000), tensor(ints(), -1000000), tensor(ints(0)), tensor(ints(60, 0, 60)), tensor(ints(0, 60, 60, 60), ints()...), tensor(ints(1, 1, 1, 1), 5), tensor(ints(2, 2), 1, 2, 3, 4), tensor(ints(60), make([]int, 60)...), tensor(ints(2), -1000000, 1000000),
	} {
		if !impl.ValidTensor(a) {
			t.Errorf("%v is no tensor", a)
		}
	}
	for _, a := range badTensors() {
		if impl.ValidTensor(a) {
			t.Errorf("%v is a tensor", a)
		}
	}
}

func TestTensorOfValues(t *testing.T) {
	mem := ints(10, 20, 30, 40, 50, 60)
	for _, c := range []struct {
		v    impl.View
		want impl.Tensor
	}{
		{vw(0, ints(2, 3), 3, 1), tensor(ints(2, 3), 10, 20, 30, 40, 50, 60)}, {vw(0, ints(3, 2), 1, 3), tensor(ints(3, 2), 10, 40, 20, 50, 30, 60)}, {vw(5, ints(3), -2), tensor(ints(3), 60, 40, 20)}, {vw(3, nil), tensor(nil, 40)},
		{vw(1, ints(2, 2), 0, 1), tensor(ints(2, 2), 20, 30, 20, 30)}, {vw(60, ints(3, 0), 5, 9), tensor(ints(3, 0))}, {vw(5, ints(1), 60), tensor(ints(1), 60)},
	} {
		got, ok := impl.TensorOf(mem, c.v)
		checkTensor(t, "TensorOf", c.v, got, ok, c.want)
	}
	empty, ok := impl.TensorOf(nil, vw(7, ints(0), 3))
	checkTensor(t, "TensorOf", "nothing", empty, ok, tensor(ints(0)))
}

func TestBadTensorOf(t *testing.T) {
	mem := ownValues(60)
	for _, v := range badViews() {
		got, ok := impl.TensorOf(mem, v)
		checkNoTensor(t, "TensorOf", v, got, ok)
	}
	for _, bad := range badMemories() {
		for _, v := range edgeViews() {
			got, ok := impl.TensorOf(bad, v)
			checkNoTensor(t, "TensorOf", v, got, ok)
		}
	}
	for _, v := range memoryViews() {
		// A memory that is too short by one cell.
		if n := sizesFor(v)[0]; n > 0 {
			got, ok := impl.TensorOf(mem[:n-1], v)
			checkNoTensor(t, "TensorOf", v, got, ok)
		}
	}
}

func TestExtentsValues(t *testing.T) {
	a, b, c := filledMatrix(2, 3, 0), filledMatrix(3, 2, 1), tensor(nil, 7)
	for _, x := range []struct {
		list   []impl.Tensor
		labels [][]int
		want   []int
		cost   int
	}{
		{[]impl.Tensor{a}, [][]int{{0, 1}}, ints(2, 3, -1, -1, -1), 6}, {[]impl.Tensor{a}, [][]int{{4, 2}}, ints(-1, -1, 3, -1, 2), 6}, {[]impl.Tensor{a, b}, [][]int{{0, 1}, {1, 2}}, ints(2, 3, 2, -1, -1), 12}, {[]impl.Tensor{a, b}, [][]int{{0, 1}, {1, 0}}, ints(2, 3, -1, -1, -1), 6}, {[]impl.Tensor{a, b, a}, [][]int{{0, 1}, {2, 3}, {4, 1}}, ints(2, 3, 3, 2, 2), 72},
		// Without any labels, and with no others than that of an extent of 0.
		{[]impl.Tensor{c}, [][]int{{}}, ints(-1, -1, -1, -1, -1), 1}, {[]impl.Tensor{c, c, c}, [][]int{nil, {}, nil}, ints(-1, -1, -1, -1, -1), 1}, {[]impl.Tensor{c, a}, [][]int{{}, {3, 0}}, ints(3, -1, -1, 2, -1), 6}, {[]impl.Tensor{tensor(ints(0)), c}, [][]int{{1}, {}}, ints(-1, 0, -1, -1, -1), 0},
		{[]impl.Tensor{tensor(ints(60, 60, 0)), tensor(ints(0, 60, 60))}, [][]int{{0, 1, 4}, {4, 2, 3}}, ints(60, 60, 60, 60, 0), 0},
		// Labels that come several times.
		{[]impl.Tensor{filledMatrix(5, 5, 2)}, [][]int{{3, 3}}, ints(-1, -1, -1, 5, -1), 5}, {[]impl.Tensor{filledTensor(ints(2, 3, 2, 3), 0)}, [][]int{{1, 0, 1, 0}}, ints(3, 2, -1, -1, -1), 6}, {[]impl.Tensor{tensor(ints(0, 0))}, [][]int{{0, 0}}, ints(0, -1, -1, -1, -1), 0}, {[]impl.Tensor{a, a, a}, [][]int{{0, 1}, {0, 1}, {0, 1}}, ints(2, 3, -1, -1, -1), 6},
	} {
		if got, ok := impl.ExtentsOf(x.list, x.labels); !ok || !slices.Equal(got, x.want) {
			t.Errorf("ExtentsOf(%v, %v) = %v, %v, not %v", x.list, x.labels, got, ok, x.want)
		}
		if got := impl.CostOf(x.list, x.labels); got != x.cost {
			t.Errorf("CostOf(%v, %v) = %d, not %d", x.list, x.labels, got, x.cost)
		}
	}
}

func TestContractValues(t *testing.T) {
	a, b := tensor(ints(2, 3), 1, 2, 3, 4, 5, 6), tensor(ints(3, 2), 1, 0, -1, 2, 10, 100)
	s, c := tensor(ints(2, 2), 1, 2, 3, 4), tensor(nil, 7)
	cube := tensor(ints(2, 2, 2), 1, 2, 3, 4, 5, 6, 7, 8)
	row, none := tensor(ints(3), 1, 10, 100), tensor(ints(2, 0))
	one := func(list ...impl.Tensor) []impl.Tensor { return list }
	for _, x := range []struct {
		n    network
		want impl.Tensor
	}{
		{network{one(a), [][]int{{0, 1}}, ints(0, 1)}, a}, {network{one(a), [][]int{{3, 1}}, ints(1, 3)}, tensor(ints(3, 2), 1, 4, 2, 5, 3, 6)}, {network{one(a), [][]int{{0, 1}}, ints(0)}, tensor(ints(2), 6, 15)}, {network{one(a), [][]int{{0, 1}}, ints(1)}, tensor(ints(3), 5, 7, 9)},
		{network{one(a, b), [][]int{{0, 1}, {1, 2}}, ints(0, 2)}, tensor(ints(2, 2), 29, 304, 59, 610)}, {network{one(a, b), [][]int{{0, 1}, {1, 2}}, ints(2, 0)}, tensor(ints(2, 2), 29, 59, 304, 610)}, {network{one(a, b), [][]int{{0, 1}, {1, 0}}, ints(0, 1)}, tensor(ints(2, 3), 1, -2, 30, 0, 10, 600)},
		{network{one(a, row), [][]int{{0, 1}, {1}}, ints(0)}, tensor(ints(2), 321, 654)}, {network{one(s, row), [][]int{{4, 2}, {0}}, ints(0, 4)}, tensor(ints(3, 2), 3, 7, 30, 70, 300, 700)}, {network{one(row, row, row), [][]int{{2}, {2}, {2}}, ints(2)}, tensor(ints(3), 1, 1000, 1000000)},
		// Labels twice in one tensor.
		{network{one(s), [][]int{{0, 0}}, ints(0)}, tensor(ints(2), 1, 4)}, {network{one(cube), [][]int{{1, 1, 1}}, ints(1)}, tensor(ints(2), 1, 8)}, {network{one(cube), [][]int{{0, 1, 0}}, ints(1, 0)}, tensor(ints(2, 2), 1, 6, 3, 8)}, {network{one(cube), [][]int{{0, 0, 1}}, ints(1)}, tensor(ints(2), 8, 10)}, {network{one(cube), [][]int{{4, 3, 3}}, ints(4)}, tensor(ints(2), 5, 13)}, {network{one(s, s), [][]int{{0, 0}, {0, 1}}, ints(1)}, tensor(ints(2), 13, 18)},
		// Results without labels.
		{network{one(a), [][]int{{0, 1}}, nil}, tensor(nil, 21)}, {network{one(s), [][]int{{0, 0}}, nil}, tensor(nil, 5)}, {network{one(a, b), [][]int{{0, 1}, {1, 0}}, ints()}, tensor(nil, 639)}, {network{one(a, b), [][]int{{0, 1}, {2, 3}}, nil}, tensor(nil, 21*112)}, {network{one(c), [][]int{{}}, nil}, tensor(nil, 7)}, {network{one(c, c, c), [][]int{{}, {}, {}}, nil}, tensor(nil, 343)}, {network{one(c, s), [][]int{{}, {0, 1}}, ints(1, 0)}, tensor(ints(2, 2), 7, 21, 14, 28)}, {network{one(tensor(ints(1, 1), 9)), [][]int{{0, 1}}, nil}, tensor(nil, 9)},
		// Extents of 0, of labels in the result, and of others, whose sums are 0.
		{network{one(none), [][]int{{0, 1}}, ints(0, 1)}, none}, {network{one(none), [][]int{{0, 1}}, ints(1)}, tensor(ints(0))}, {network{one(none), [][]int{{0, 1}}, ints(0)}, tensor(ints(2), 0, 0)}, {network{one(none), [][]int{{0, 1}}, nil}, tensor(nil, 0)}, {network{one(none, c, s), [][]int{{0, 1}, {}, {0, 2}}, ints(2, 0)}, tensor(ints(2, 2), 0, 0, 0, 0)}, {network{one(tensor(ints(0, 0))), [][]int{{3, 3}}, nil}, tensor(nil, 0)}, {network{one(tensor(ints(0)), s), [][]int{{4}, {0, 1}}, ints(0, 1)}, tensor(ints(2, 2), 0, 0, 0, 0)},
		{network{one(tensor(ints(60, 60, 0)), tensor(ints(60, 60, 0))), [][]int{{0, 1, 4}, {2, 3, 4}}, ints(3)}, tensor(ints(60), make([]int, 60)...)}, {network{one(tensor(ints(60, 60, 0)), tensor(ints(60, 60, 0))), [][]int{{0, 1, 4}, {2, 3, 4}}, ints(3, 2, 1, 4)}, tensor(ints(60, 60, 60, 0))},
	} {
		got, ok := x.n.contract()
		checkTensor(t, "Contract", x.n, got, ok, x.want)
	}
}

// TestContractLimits counts the ways at the limit: each of them adds 1.
func TestContractLimits(t *testing.T) {
	for _, extents := range [][]int{{20, 20, 10}, {40, 10, 10}, {50, 40, 2}, {50, 2, 40}, {31, 43, 3}, {57, 10, 7}, {59, 60}, {60, 60, 1}, {60, 0, 60}} {
		for _, out := range [][]int{nil, {0}, {1}} {
			n, want := vectorsOfOnes(extents...), plainProduct(extents)
			shape := chosen(extents, out)
			for _, extent := range shape {
				want /= max(extent, 1)
			}
			got, ok := n.to(out...).contract()
			checkTensor(t, "Contract", extents, got, ok, tensor(shape, slices.Repeat(ints(want), plainProduct(shape))...))
		}
	}
	for _, extents := range [][]int{{29, 46, 3}, {46, 29, 3}, {4, 17, 59}, {60, 60, 2}, {60, 60, 60}} {
		for _, out := range [][]int{nil, {0}, {2}, {0, 2}} {
			got, ok := vectorsOfOnes(extents...).to(out...).contract()
			checkNoTensor(t, "Contract", extents, got, ok)
		}
	}
	// The shape of the result is not valid, though there are no ways.
	for _, out := range [][]int{{0, 1}, {1, 0}, {0, 1, 2}} {
		n := networkOf(ints(60, 60, 60, 0), out, ints(0, 1, 3), ints(2, 3))
		got, ok := n.contract()
		checkNoTensor(t, "Contract", n, got, ok)
	}
}

func TestBadResults(t *testing.T) {
	chain := networkOf(ints(2, 3, 2, 3), nil, ints(0, 1), ints(1, 2), ints(2, 3))
	for _, out := range [][]int{{4}, {0, 4}, {4, 0}, {0, 0}, {0, 3, 0}, {3, 3}, {0, 1, 2, 3, 4}, {0, 1, 2, 3, 0}, slices.Repeat(ints(0), 100)} {
		n := chain.to(out...)
		got, ok := n.contract()
		checkNoTensor(t, "Contract", n, got, ok)
		for _, pair := range n.pairsIn() {
			got, ok := n.by(pair[0], pair[1])
			checkNoTensor(t, "ContractBy", n, got, ok)
			// These labels are none that Contract can have, but labels.
			if got := impl.KeptLabels(n.list, n.labels, n.out, pair[0], pair[1]); !slices.Equal(got, n.plainKept(pair[0], pair[1])) {
				t.Errorf("KeptLabels %v, %v = %v", n, pair, got)
			}
			if got := impl.CostBy(n.list, n.labels, n.out, pair[0], pair[1]); got != n.plainCostBy(pair[0], pair[1]) {
				t.Errorf("CostBy %v, %v = %d", n, pair, got)
			}
		}
		if i, j := impl.BestPair(n.list, n.labels, n.out); i < 0 || j <= i {
			t.Errorf("BestPair %v = %d, %d", n, i, j)
		}
	}
	for _, label := range badLabels() {
		for _, out := range [][]int{{label}, {0, label}, {label, 3}, {label, label}} {
			n := chain.to(out...)
			n.checkNothing(t)
			// Without labels of the result these tensors are as good as others.
			if got := impl.CostOf(n.list, n.labels); got != 36 {
				t.Errorf("CostOf %v = %d", n, got)
			}
		}
	}
}

// checkNothing fails if a network can be contracted, or has kept labels, a cost two by two, or a best pair.
func (n network) checkNothing(t *testing.T) {
	t.Helper()
	got, ok := n.contract()
	checkNoTensor(t, "Contract", n, got, ok)
	if i, j := impl.BestPair(n.list, n.labels, n.out); i != -1 || j != -1 {
		t.Fatalf("BestPair %v = %d, %d", n, i, j)
	}
	for i := -1; i <= len(n.list); i++ {
		for j := -1; j <= len(n.list); j++ {
			n.checkNoPair(t, i, j)
		}
	}
}

// checkNoPair fails if a network can be contracted by two tensors first.
func (n network) checkNoPair(t *testing.T, i int, j int) {
	t.Helper()
	got, ok := n.by(i, j)
	checkNoTensor(t, "ContractBy", n, got, ok)
	if kept := impl.KeptLabels(n.list, n.labels, n.out, i, j); len(kept) != 0 {
		t.Fatalf("KeptLabels %v, %d, %d = %v", n, i, j, kept)
	}
	if cost := impl.CostBy(n.list, n.labels, n.out, i, j); cost != -1 {
		t.Fatalf("CostBy %v, %d, %d = %d", n, i, j, cost)
	}
}

func TestBadNetworks(t *testing.T) {
	for _, n := range badNetworks() {
		for _, out := range [][]int{nil, {0}, {1, 0}, {4}} {
			n.to(out...).checkNothing(t)
		}
		if got, ok := impl.ExtentsOf(n.list, n.labels); ok || len(got) != 0 {
			t.Fatalf("ExtentsOf %v = %v, %v", n, got, ok)
		}
		if got := impl.CostOf(n.list, n.labels); got != -1 {
			t.Fatalf("CostOf %v = %d", n, got)
		}
	}
}

func TestBadPairs(t *testing.T) {
	for _, n := range []network{
		networkOf(ints(2, 3, 2, 3), ints(0, 3), ints(0, 1), ints(1, 2), ints(2, 3)), networkOf(ints(2, 3, 2), ints(0, 2), ints(0, 1), ints(1, 2)), networkOf(ints(2, 3), ints(0), ints(0, 1)), {[]impl.Tensor{tensor(nil, 7)}, [][]int{{}}, nil},
	} {
		for _, pair := range badPairs(len(n.list)) {
			n.checkNoPair(t, pair[0], pair[1])
		}
		for i := range n.list {
			n.checkNoPair(t, i, i)
		}
		if i, j := impl.BestPair(n.list, n.labels, n.out); len(n.list) == 1 && (i != -1 || j != -1) {
			t.Errorf("BestPair %v = %d, %d", n, i, j)
		}
	}
}

func TestPairValues(t *testing.T) {
	chain := networkOf(ints(6, 2, 5, 3), ints(0, 3), ints(0, 1), ints(1, 2), ints(2, 3))
	hub := networkOf(ints(2, 3, 4, 5, 0), ints(0), ints(0, 1), ints(1, 2), ints(1, 3))
	for _, x := range []struct {
		n    network
		i, j int
		kept []int
		cost int
	}{
		{chain, 0, 1, ints(0, 2), 60 + 90}, {chain, 1, 0, ints(0, 2), 60 + 90}, {chain, 1, 2, ints(1, 3), 30 + 36}, {chain, 0, 2, ints(0, 1, 2, 3), 180 + 180},
		// Labels that are needed later, by another tensor, by the result, and by both.
		{hub, 0, 1, ints(0, 1), 24 + 30}, {hub, 1, 2, ints(1), 60 + 6}, {hub, 0, 2, ints(0, 1), 30 + 24}, {hub.to(1), 1, 2, ints(1), 60 + 6}, {hub.to(2, 3), 1, 2, ints(1, 2, 3), 60 + 120}, {hub.to(3), 0, 1, ints(1), 24 + 15}, {hub.to(), 2, 0, ints(1), 30 + 12},
		// Labels of the result that none has, that come twice, or that just the other tensor has.
		{hub.to(4), 1, 2, ints(1), 60 + 6}, {hub.to(3, 3, 4), 2, 1, ints(1, 3), 60 + 30}, {hub.to(3), 1, 0, ints(1), 24 + 15}, {hub.to(0, 1, 2, 3, 4), 0, 1, ints(0, 1, 2), 24 + 120},
		// Two tensors, whose product is not contracted with others.
		{networkOf(ints(2, 3, 4), ints(0, 2), ints(0, 1), ints(1, 2)), 0, 1, ints(0, 2), 24 + 8}, {networkOf(ints(2, 3, 4), nil, ints(0, 1), ints(1, 2)), 1, 0, nil, 24 + 1}, {networkOf(ints(2, 3, 4), ints(2), ints(0, 1), ints(1, 2)), 1, 0, ints(2), 24 + 4}, {networkOf(ints(2), nil, ints(0, 0), ints(0)), 0, 1, nil, 2 + 1},
		// Without labels, and with an extent of 0.
		{network{slices.Repeat([]impl.Tensor{tensor(nil, 3)}, 3), make([][]int, 3), nil}, 2, 1, nil, 1 + 1}, {networkOf(ints(0, 2, 3), ints(1), ints(0, 1), ints(0, 2), ints(2)), 0, 1, ints(1, 2), 0 + 6}, {networkOf(ints(0, 2, 3), ints(0), ints(0, 1), ints(1, 2), ints(2)), 1, 2, ints(1), 6 + 0},
		// As many labels as there are.
		{networkOf(ints(1, 1, 1, 1, 1), ints(4, 3, 2, 1, 0), ints(0, 1, 2, 3), ints(4)), 0, 1, ints(0, 1, 2, 3, 4), 1 + 1}, {networkOf(ints(60, 60, 60, 60, 0), nil, ints(0, 1, 4), ints(2, 3, 4)), 0, 1, nil, 0 + 1}, {networkOf(ints(60, 60, 60), nil, ints(0), ints(1), ints(2)), 0, 2, nil, 3600 + 60}, {networkOf(ints(60, 60, 60), ints(2, 1, 0), ints(0), ints(1), ints(2)), 0, 1, ints(0, 1), 3600 + 216000},
	} {
		if got := impl.KeptLabels(x.n.list, x.n.labels, x.n.out, x.i, x.j); !slices.Equal(got, x.kept) {
			t.Errorf("KeptLabels %v, %d, %d = %v, not %v", x.n, x.i, x.j, got, x.kept)
		}
		if got := impl.CostBy(x.n.list, x.n.labels, x.n.out, x.i, x.j); got != x.cost {
			t.Errorf("CostBy %v, %d, %d = %d, not %d", x.n, x.i, x.j, got, x.cost)
		}
	}
}

func TestContractByValues(t *testing.T) {
	scalar := func(value int) impl.Tensor { return tensor(nil, value) }
	three := func(a int, b int, c int) network {
		return network{[]impl.Tensor{scalar(a), scalar(b), scalar(c)}, [][]int{{}, {}, {}}, nil}
	}
	outer := vectorsOfOnes(60, 60, 2)
	wide := networkOf(ints(6, 7, 8, 7), ints(0, 3), ints(0, 1), ints(1, 2), ints(2, 3))
	for _, x := range []struct {
		n       network
		i, j    int
		all, by bool
	}{
		// In all there are too many ways.
		{outer, 0, 1, false, true}, {outer, 2, 1, false, true}, {outer, 0, 2, false, true}, {outer.to(2), 0, 1, false, true}, {outer.to(1), 0, 2, false, true}, {outer.to(1), 2, 0, false, true}, {outer.to(1), 1, 0, false, true}, {outer.to(1), 2, 1, false, true},
		// What is made first has too many values: 48 are not, but 49 with four labels are, and so are those of an outer product.
		{wide, 0, 1, true, true}, {wide, 1, 0, true, true}, {wide, 1, 2, true, true}, {wide, 0, 2, true, false}, {wide, 2, 0, true, false}, {networkOf(ints(8, 7, 8, 7), ints(0, 3), ints(0, 1), ints(1, 2), ints(2, 3)), 0, 1, true, false},
		// Values that are too great just on the way, at the end, or nowhere.
		{three(1000, 1000, 1), 0, 1, true, true}, {three(1000, 1001, 0), 0, 1, true, false}, {three(1000, 0, 1001), 0, 1, true, true}, {three(1000, 0, 1001), 2, 0, true, false}, {three(1000, 100, 100), 1, 2, false, false}, {three(-1000, 1000, -1), 0, 2, true, true},
		// What is made first has too many labels.
		{networkOf(ints(1, 1, 1, 1, 1), nil, ints(0, 1, 2, 3), ints(4), ints(0, 1, 2, 4)), 0, 1, true, true}, {networkOf(ints(1, 1, 1, 1, 1), ints(3), ints(0, 1, 2, 3), ints(4), ints(0, 1, 2, 4)), 0, 1, true, false}, {networkOf(ints(1, 1, 1, 1, 1), ints(3), ints(0, 1, 2, 3), ints(4), ints(0, 1, 2, 4)), 2, 1, true, true},
	} {
		if _, ok := x.n.checkContract(t); ok != x.all {
			t.Errorf("Contract %v is possible: %v", x.n, ok)
		}
		if _, ok := x.n.checkBy(t, x.i, x.j); ok != x.by {
			t.Errorf("ContractBy %v, %d, %d is possible: %v", x.n, x.i, x.j, ok)
		}
	}
}

func TestBestPairValues(t *testing.T) {
	for _, x := range []struct {
		n    network
		i, j int
	}{
		{networkOf(ints(6, 2, 5, 3), ints(0, 3), ints(0, 1), ints(1, 2), ints(2, 3)), 1, 2}, {networkOf(ints(3, 5, 2, 6), ints(0, 3), ints(0, 1), ints(1, 2), ints(2, 3)), 0, 1}, {networkOf(ints(3, 5, 2, 6), ints(0, 3), ints(0, 1), ints(2, 3), ints(1, 2)), 0, 2}, {networkOf(ints(2, 3, 4), ints(0, 2), ints(0, 1), ints(1, 2)), 0, 1},
		// Of equal costs the first ones, with the least i, and then the least j.
		{networkOf(ints(2, 2, 2), ints(0, 2), ints(0), ints(1), ints(2)), 0, 1}, {networkOf(ints(2, 2, 2, 2), ints(0, 3), ints(0, 1), ints(1, 2), ints(2, 3)), 0, 1}, {networkOf(ints(2, 2, 2, 2), ints(0, 3), ints(0, 1), ints(2, 3), ints(1, 2)), 0, 2}, {networkOf(ints(2, 2, 2, 2), ints(0, 3), ints(1, 2), ints(0, 1), ints(2, 3)), 0, 1},
		{network{slices.Repeat([]impl.Tensor{tensor(nil, 3)}, 3), make([][]int, 3), nil}, 0, 1}, {network{slices.Repeat([]impl.Tensor{tensor(nil, 3)}, 2), make([][]int, 2), nil}, 0, 1}, {networkOf(ints(0, 2), nil, ints(0), ints(1), ints(1)), 0, 1}, {networkOf(ints(2, 3, 0), nil, ints(0), ints(1, 2), ints(1)), 1, 2},
		// Also of those that cannot be contracted.
		{networkOf(ints(60, 50, 60), ints(0, 1, 2), ints(0), ints(1), ints(2)), 0, 1}, {networkOf(ints(60, 60, 2), ints(4, 4), ints(0), ints(1), ints(2)), 0, 2},
		{network{[]impl.Tensor{tensor(nil, 3)}, [][]int{{}}, nil}, -1, -1}, {networkOf(ints(2, 3), ints(0), ints(0, 1)), -1, -1},
	} {
		if i, j := impl.BestPair(x.n.list, x.n.labels, x.n.out); i != x.i || j != x.j {
			t.Errorf("BestPair %v = %d, %d, not %d, %d", x.n, i, j, x.i, x.j)
		}
	}
}

func TestMatMulValues(t *testing.T) {
	a, b := tensor(ints(2, 3), 1, 2, 3, 4, 5, 6), tensor(ints(3, 1), 1, 10, 100)
	wide, high := tensor(ints(1, 60), slices.Repeat(ints(-1), 60)...), tensor(ints(60, 1), slices.Repeat(ints(3), 60)...)
	for _, x := range []struct{ a, b, want impl.Tensor }{
		{a, b, tensor(ints(2, 1), 321, 654)}, {wide, high, tensor(ints(1, 1), -180)}, {tensor(ints(2, 2), 1, 2, 3, 4), a, tensor(ints(2, 3), 9, 12, 15, 19, 26, 33)}, {tensor(ints(1, 1), 1000), tensor(ints(1, 1), 1000), tensor(ints(1, 1), 1000000)}, {tensor(ints(1, 1), -1000), tensor(ints(1, 1), 1000), tensor(ints(1, 1), -1000000)},
		{tensor(ints(0, 2)), a, tensor(ints(0, 3))}, {tensor(ints(2, 0)), tensor(ints(0, 3)), tensor(ints(2, 3), 0, 0, 0, 0, 0, 0)}, {tensor(ints(0, 0)), tensor(ints(0, 0)), tensor(ints(0, 0))}, {a, tensor(ints(3, 0)), tensor(ints(2, 0))}, {tensor(ints(1, 0)), tensor(ints(0, 1)), tensor(ints(1, 1), 0)},
	} {
		got, ok := impl.MatMul(x.a, x.b)
		checkTensor(t, "MatMul", [2]impl.Tensor{x.a, x.b}, got, ok, x.want)
	}
	for _, x := range [][2]impl.Tensor{
		{a, a}, {b, a}, {b, b}, {high, wide}, {tensor(ints(60, 0)), tensor(ints(0, 60))}, {tensor(ints(1, 1), 1000), tensor(ints(1, 1), 1001)}, {tensor(ints(1, 2), 1000, 1), tensor(ints(2, 1), 1000, 1)}, {filledMatrix(8, 7, 0), filledMatrix(7, 8, 0)},
		// Tensors with other numbers of dimensions.
		{a, tensor(ints(3), 1, 2, 3)}, {tensor(ints(2), 1, 2), a}, {tensor(nil, 3), tensor(nil, 3)}, {a, tensor(ints(3, 1, 1), 1, 2, 3)}, {tensor(ints(1, 1, 2), 1, 2), a}, {tensor(ints(1), 2), tensor(ints(1), 2)},
	} {
		got, ok := impl.MatMul(x[0], x[1])
		checkNoTensor(t, "MatMul", x, got, ok)
	}
	for _, bad := range badTensors() {
		for _, other := range []impl.Tensor{a, b, tensor(ints(2, 2), 1, 2, 3, 4), bad} {
			got, ok := impl.MatMul(bad, other)
			checkNoTensor(t, "MatMul", bad, got, ok)
			got, ok = impl.MatMul(other, bad)
			checkNoTensor(t, "MatMul", bad, got, ok)
		}
	}
}

func TestTraceValues(t *testing.T) {
	for _, x := range []struct {
		a    impl.Tensor
		want int
	}{
		{tensor(ints(2, 2), 1, 2, 3, 4), 5}, {tensor(ints(1, 1), -9), -9}, {tensor(ints(0, 0)), 0}, {tensor(ints(3, 3), 1, 9, 9, 9, 10, 9, 9, 9, 100), 111}, {tensor(ints(2, 2), 600000, 0, 0, 400000), 1000000}, {tensor(ints(2, 2), -600000, 0, 0, -400000), -1000000}, {tensor(ints(3, 3), 1000000, 0, 0, 0, 1000000, 0, 0, 0, -1000000), 1000000},
	} {
		if got, ok := impl.TraceOf(x.a); !ok || got != x.want {
			t.Errorf("TraceOf(%v) = %d, %v, not %d", x.a, got, ok, x.want)
		}
	}
	list := append(badTensors(), tensor(nil, 5), tensor(ints(1), 5), tensor(ints(2, 3), 1, 2, 3, 4, 5, 6), tensor(ints(0, 1)), tensor(ints(1, 0)), tensor(ints(1, 1, 1), 5), tensor(ints(0, 0, 0)), tensor(ints(2, 2), 600000, 0, 0, 400001), tensor(ints(2, 2), -600000, 0, 0, -400001))
	for _, a := range list {
		if got, ok := impl.TraceOf(a); ok || got != 0 {
			t.Errorf("TraceOf(%v) = %d, %v", a, got, ok)
		}
	}
}

func TestTurnTensorValues(t *testing.T) {
	cube := tensor(ints(2, 1, 3), 1, 2, 3, 4, 5, 6)
	for _, x := range []struct {
		a     impl.Tensor
		order []int
		want  impl.Tensor
	}{
		{cube, ints(0, 1, 2), cube}, {cube, ints(2, 0, 1), tensor(ints(3, 2, 1), 1, 4, 2, 5, 3, 6)}, {cube, ints(1, 2, 0), tensor(ints(1, 3, 2), 1, 4, 2, 5, 3, 6)}, {cube, ints(1, 0, 2), tensor(ints(1, 2, 3), 1, 2, 3, 4, 5, 6)}, {tensor(nil, 7), nil, tensor(nil, 7)}, {tensor(nil, 7), ints(), tensor(nil, 7)}, {tensor(ints(2), 7, 8), ints(0), tensor(ints(2), 7, 8)},
		{tensor(ints(60, 0, 1)), ints(2, 0, 1), tensor(ints(1, 60, 0))}, {tensor(ints(60, 60, 0, 60)), ints(3, 2, 1, 0), tensor(ints(60, 0, 60, 60))}, {tensor(ints(2, 2), -1000000, 1000000, 0, 1), ints(1, 0), tensor(ints(2, 2), -1000000, 0, 1000000, 1)},
	} {
		checkTensor(t, "TurnTensor", x.a, impl.TurnTensor(x.a, x.order), true, x.want)
	}
	for _, a := range manyTensors() {
		for _, order := range badOrders(len(a.Shape)) {
			checkNoTensor(t, "TurnTensor", a, impl.TurnTensor(a, order), false)
		}
	}
	for _, a := range badTensors() {
		for n := range 6 {
			checkNoTensor(t, "TurnTensor", a, impl.TurnTensor(a, firstNumbers(n)), false)
		}
	}
}

func TestSumDimValues(t *testing.T) {
	cube := tensor(ints(2, 1, 3), 1, 2, 3, 4, 5, 6)
	for _, x := range []struct {
		a    impl.Tensor
		d    int
		want impl.Tensor
	}{
		{cube, 0, tensor(ints(1, 3), 5, 7, 9)}, {cube, 1, tensor(ints(2, 3), 1, 2, 3, 4, 5, 6)}, {cube, 2, tensor(ints(2, 1), 6, 15)}, {tensor(ints(3), 1, 2, 3), 0, tensor(nil, 6)}, {tensor(ints(0)), 0, tensor(nil, 0)}, {tensor(ints(2, 0)), 1, tensor(ints(2), 0, 0)}, {tensor(ints(2, 0)), 0, tensor(ints(0))}, {tensor(ints(0, 0)), 1, tensor(ints(0))}, {tensor(ints(60, 60, 0)), 0, tensor(ints(60, 0))}, {tensor(ints(60, 0)), 1, tensor(ints(60), make([]int, 60)...)},
		{tensor(ints(2), 600000, 400000), 0, tensor(nil, 1000000)}, {tensor(ints(2), -1000000, 0), 0, tensor(nil, -1000000)}, {tensor(ints(3), 1000000, 1000000, -1000000), 0, tensor(nil, 1000000)},
	} {
		got, ok := impl.SumDim(x.a, x.d)
		checkTensor(t, "SumDim", x.a, got, ok, x.want)
	}
	for _, a := range []impl.Tensor{tensor(ints(2), 600000, 400001), tensor(ints(2), -1000000, -1), tensor(ints(2, 2), 1000000, 0, 1, 0), tensor(ints(2, 2), 0, 1000000, 0, 1), tensor(ints(0, 60, 60)), tensor(ints(0, 2, 2, 16)), tensor(ints(0, 61))} {
		got, ok := impl.SumDim(a, 0)
		checkNoTensor(t, "SumDim", a, got, ok)
	}
	for _, a := range manyTensors() {
		for _, d := range badDims(len(a.Shape)) {
			got, ok := impl.SumDim(a, d)
			checkNoTensor(t, "SumDim", a, got, ok)
		}
	}
	for _, a := range badTensors() {
		for d := -1; d <= 5; d++ {
			got, ok := impl.SumDim(a, d)
			checkNoTensor(t, "SumDim", a, got, ok)
		}
	}
}

// TestSumsBeyondAllBits does not ask for a result: the document does not say what it is. But it has to be a tensor, or none.
func TestSumsBeyondAllBits(t *testing.T) {
	top := tensor(ints(20), slices.Repeat(ints(1000000), 20)...)
	for _, value := range []int{1000000, -1000000, 999999} {
		other := tensor(ints(20), slices.Repeat(ints(value), 20)...)
		n := network{[]impl.Tensor{top, other, tensor(ints(10), slices.Repeat(ints(value), 10)...)}, [][]int{{0}, {1}, {2}}, nil}
		if got, ok := n.contract(); ok != plainIsTensor(got) {
			t.Errorf("Contract %v = %v, %v", n, got, ok)
		}
	}
}

// TestTensorsAreFreshAndKept checks that no two results share memory, that no argument is changed, neither within its length nor behind it, and that results are the same each time.
func TestTensorsAreFreshAndKept(t *testing.T) {
	shape, allShape := roomy(2, 2)
	values, allValues := roomy(1, 2, 3, 4)
	first, allFirst := roomy(0, 1)
	second, allSecond := roomy(1, 2)
	out, allOut := roomy(0, 2)
	order, allOrder := roomy(0, 1)
	mem, allMem := roomy(5, 6, 7, 8)
	a := tensor(shape, values...)
	room := append(make([]impl.Tensor, 0, 9), a, a, a)
	more := append(make([][]int, 0, 9), first, second, second)
	list, labels := room[:2], more[:2]
	v := impl.View{Shape: shape, Strides: ints(2, 1)}
	call := func() [][]int {
		var results [][]int
		keep := func(t impl.Tensor, ok bool) { results = append(results, t.Shape, t.Values) }
		keep(impl.TensorOf(mem, v))
		keep(impl.Contract(list, labels, out))
		keep(impl.Contract(list[:1], labels[:1], first))
		keep(impl.ContractBy(list, labels, out, 0, 1))
		keep(impl.ContractBy(room, more, out, 2, 0))
		keep(impl.MatMul(a, a))
		keep(impl.TurnTensor(a, order), true)
		keep(impl.SumDim(tensor(ints(2, 2, 2), 1, 2, 3, 4, 5, 6, 7, 8), 1))
		extents, _ := impl.ExtentsOf(list, labels)
		return append(results, extents, impl.KeptLabels(list, labels, out, 0, 1), impl.KeptLabels(room, more, out, 0, 1))
	}
	before := call()
	spoiled := call()
	for i, got := range spoiled {
		if len(got) < 2 || !slices.Equal(got, before[i]) {
			t.Fatalf("result %d is %v, and was %v", i, got, before[i])
		}
		for k := range got[:cap(got)] {
			got[:cap(got)][k] = 55
		}
	}
	for i, got := range call() {
		if !slices.Equal(got, before[i]) {
			t.Fatalf("result %d is %v, and was %v", i, got, before[i])
		}
	}
	if !slices.Equal(allShape, ints(2, 2, 77, 77, 77)) || !slices.Equal(allValues, ints(1, 2, 3, 4, 77, 77, 77)) || !slices.Equal(allMem, ints(5, 6, 7, 8, 77, 77, 77)) {
		t.Errorf("an argument was changed: %v, %v, %v", allShape, allValues, allMem)
	}
	if !sameItems([][]int{allFirst, allSecond, allOut, allOrder}, [][]int{ints(0, 1, 77, 77, 77), ints(1, 2, 77, 77, 77), ints(0, 2, 77, 77, 77), ints(0, 1, 77, 77, 77)}) {
		t.Errorf("an argument was changed: %v, %v, %v, %v", allFirst, allSecond, allOut, allOrder)
	}
	behind := room[:9][3:]
	if !sameTensors(room[2], a) || slices.ContainsFunc(behind, func(t impl.Tensor) bool { return !isNoTensor(t) }) || !sameItems(more[:9], append([][]int{ints(0, 1), ints(1, 2), ints(1, 2)}, make([][]int, 6)...)) {
		t.Errorf("an argument was changed: %v, %v", room[:9], more[:9])
	}
}
