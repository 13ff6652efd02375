package tests

import (
	"slices"
	"testing"

	"loop.example/strideviews/impl"
)

// TestP85TensorsHaveTheirValues needs tensors that are not valid, too: those with one value too many, one too few, or one that is too great.
func TestP85TensorsHaveTheirValues(t *testing.T) {
	for _, a := range manyTensors() {
		n := len(a.Values)
		if !impl.ValidTensor(a) || n != impl.CountOf(a.Shape) {
			t.Fatalf("ValidTensor(%v) is false, or there are not %d values", a, impl.CountOf(a.Shape))
		}
		if zero := tensor(a.Shape, make([]int, n)...); !impl.ValidTensor(zero) {
			t.Fatalf("ValidTensor(%v) is false", zero)
		}
		if more := tensor(a.Shape, inserted(a.Values, n, 0)...); impl.ValidTensor(more) {
			t.Fatalf("ValidTensor(%v) is true", more)
		}
		if n == 0 {
			continue
		}
		if fewer := tensor(a.Shape, a.Values[1:]...); impl.ValidTensor(fewer) {
			t.Fatalf("ValidTensor(%v) is true", fewer)
		}
		for _, value := range badEntries() {
			if bad := tensor(a.Shape, with(a.Values, n/2, value)...); impl.ValidTensor(bad) {
				t.Fatalf("ValidTensor(%v) is true", bad)
			}
		}
	}
}

func TestP86TensorsAreViewsOfAMoment(t *testing.T) {
	for mem, v := range fitting(memoryViews()) {
		got, ok := impl.TensorOf(mem, v)
		checkTensor(t, "TensorOf", v, got, ok, tensor(v.Shape, chosen(mem, plainCells(v))...))
		if !slices.Equal(got.Values, impl.LoadView(mem, v)) {
			t.Fatalf("TensorOf(%v, %v) = %v, but LoadView is %v", mem, v, got, impl.LoadView(mem, v))
		}
		for _, order := range manyOrders(len(v.Shape)) {
			turned, _ := impl.PermuteDims(v, order)
			other, also := impl.TensorOf(mem, turned)
			checkTensor(t, "TensorOf", turned, other, also, impl.TurnTensor(got, order))
		}
	}
}

func TestP87LabelsHaveOneExtent(t *testing.T) {
	for _, n := range manyNetworks() {
		got, ok := impl.ExtentsOf(n.list, n.labels)
		if !ok || len(got) != 5 {
			t.Fatalf("ExtentsOf %v = %v, %v", n, got, ok)
		}
		for i, a := range n.list {
			if !slices.Equal(chosen(got, n.labels[i]), a.Shape) {
				t.Fatalf("ExtentsOf %v = %v", n, got)
			}
		}
		for label, extent := range got {
			if (extent == -1) != !slices.Contains(n.used(), label) {
				t.Fatalf("ExtentsOf %v = %v", n, got)
			}
		}
	}
}

func TestP88ContractionsHaveTheLabelsOfTheResult(t *testing.T) {
	for _, n := range slices.Concat(manyNetworks(), bigNetworks()) {
		got, ok := n.checkContract(t)
		if !ok {
			continue
		}
		extents, _ := impl.ExtentsOf(n.list, n.labels)
		if !slices.Equal(got.Shape, chosen(extents, n.out)) {
			t.Fatalf("Contract %v = %v, but the extents are %v", n, got, extents)
		}
		for _, order := range manyOrders(len(n.out)) {
			turned, also := n.to(chosen(n.out, order)...).contract()
			checkTensor(t, "Contract", n, turned, also, impl.TurnTensor(got, order))
		}
	}
}

func TestP89FactorsComeInAnyOrder(t *testing.T) {
	for _, n := range slices.Concat(manyNetworks(), bigNetworks()) {
		got, ok := n.contract()
		for _, order := range manyOrders(len(n.list)) {
			other, also := impl.Contract(chosenOf(n.list, order), chosenOf(n.labels, order), n.out)
			if ok != also || !sameTensors(got, other) {
				t.Fatalf("Contract %v = %v, %v, but %v, %v in the order %v", n, got, ok, other, also, order)
			}
		}
	}
}

func TestP90SumsCanBeDoneLater(t *testing.T) {
	later := 0
	for _, n := range slices.Concat(manyNetworks(), bigNetworks()) {
		more, ok := n.contract()
		for d := range n.out {
			fewer, also := n.to(without(n.out, d)...).contract()
			if !ok || !also {
				continue
			}
			sum, can := impl.SumDim(more, d)
			checkTensor(t, "SumDim", n, sum, can, fewer)
			later++
		}
	}
	if later == 0 {
		t.Fatal("no sum was done later")
	}
}

func TestP91ContractionsAreLinear(t *testing.T) {
	for _, n := range slices.Concat(manyNetworks(), bigNetworks()) {
		got, ok := n.contract()
		for _, times := range ints(2, -1, 3, 0) {
			first := tensor(n.list[0].Shape, timesAll(n.list[0].Values, times)...)
			want := tensor(got.Shape, timesAll(got.Values, times)...)
			if !ok || !plainIsTensor(first) || !plainIsTensor(want) {
				continue
			}
			other, also := impl.Contract(append([]impl.Tensor{first}, n.list[1:]...), n.labels, n.out)
			checkTensor(t, "Contract", n, other, also, want)
		}
	}
}

// timesAll returns all numbers of a list so many times as great.
func timesAll(list []int, times int) []int {
	var out []int
	for _, x := range list {
		out = append(out, times*x)
	}
	return out
}

func TestP92CostsAreOfAllLabels(t *testing.T) {
	for _, n := range slices.Concat(manyNetworks(), bigNetworks()) {
		extents, _ := impl.ExtentsOf(n.list, n.labels)
		extents = slices.DeleteFunc(extents, func(extent int) bool { return extent == -1 })
		if got := impl.CostOf(n.list, n.labels); got != plainProduct(extents) || got != n.plainCost() {
			t.Fatalf("CostOf %v = %d, but the extents are %v", n, got, extents)
		}
	}
}

func TestP93KeptLabelsAreNeeded(t *testing.T) {
	for _, n := range slices.Concat(manyNetworks(), bigNetworks()) {
		for _, pair := range n.pairsIn() {
			i, j := pair[0], pair[1]
			got, rest := impl.KeptLabels(n.list, n.labels, n.out, i, j), slices.Clone(n.out)
			for k, labels := range n.labels {
				if k != i && k != j {
					rest = append(rest, labels...)
				}
			}
			both := slices.Concat(n.labels[i], n.labels[j])
			for _, label := range got {
				if !slices.Contains(both, label) || !slices.Contains(rest, label) {
					t.Fatalf("KeptLabels %v, %v = %v, but %d is not needed", n, pair, got, label)
				}
			}
			if want := n.plainKept(i, j); !slices.Equal(got, want) {
				t.Fatalf("KeptLabels %v, %v = %v, not %v", n, pair, got, want)
			}
		}
	}
}

func TestP94AnyTwoMayComeFirst(t *testing.T) {
	var both, justAll, justBy int
	for _, n := range slices.Concat(manyNetworks(), bigNetworks()) {
		want, can := n.contract()
		for _, pair := range n.pairsIn() {
			got, ok := n.checkBy(t, pair[0], pair[1])
			switch {
			case ok && can:
				both++
				if !sameTensors(got, want) {
					t.Fatalf("ContractBy %v, %v = %v, not %v", n, pair, got, want)
				}
			case ok:
				justBy++
			case can:
				justAll++
			}
		}
	}
	if both == 0 || justAll == 0 || justBy == 0 {
		t.Fatalf("%d contractions were possible in both ways, %d just all at once, and %d just two by two", both, justAll, justBy)
	}
}

func TestP95CostsByTwoAreOfBothContractions(t *testing.T) {
	for _, n := range slices.Concat(manyNetworks(), bigNetworks()) {
		for _, pair := range n.pairsIn() {
			i, j := pair[0], pair[1]
			got, back := impl.CostBy(n.list, n.labels, n.out, i, j), impl.CostBy(n.list, n.labels, n.out, j, i)
			if want := n.plainCostBy(i, j); got != back || got != want {
				t.Fatalf("CostBy %v, %v = %d, not %d, and %d for the other order", n, pair, got, want, back)
			}
			first := n.first(i, j)
			if part := impl.CostOf(first.list, first.labels); part < 0 || part > got {
				t.Fatalf("CostBy %v, %v = %d, but that of the two is %d", n, pair, got, part)
			}
			if made, ok := first.contract(); ok {
				second := n.second(i, j, made)
				if want := impl.CostOf(first.list, first.labels) + impl.CostOf(second.list, second.labels); got != want {
					t.Fatalf("CostBy %v, %v = %d, not %d", n, pair, got, want)
				}
			}
		}
	}
}

func TestP96BestPairsCostLeast(t *testing.T) {
	best := map[[2]int]int{}
	for _, n := range slices.Concat(manyNetworks(), bigNetworks()) {
		i, j := impl.BestPair(n.list, n.labels, n.out)
		best[[2]int{i, j}]++
		if first, second := n.plainBest(); i != first || j != second {
			t.Fatalf("BestPair %v = %d, %d, not %d, %d", n, i, j, first, second)
		}
		if len(n.list) < 2 {
			continue
		}
		least := impl.CostBy(n.list, n.labels, n.out, i, j)
		for _, pair := range n.pairsIn() {
			if cost := impl.CostBy(n.list, n.labels, n.out, pair[0], pair[1]); cost < least {
				t.Fatalf("BestPair %v = %d, %d, but %v costs less", n, i, j, pair)
			}
		}
		want, can := n.contract()
		if got, ok := n.by(i, j); ok && can && !sameTensors(got, want) {
			t.Fatalf("ContractBy %v, %d, %d = %v, not %v", n, i, j, got, want)
		}
	}
	if len(best) != 4 {
		t.Fatalf("the best pairs were %v", best)
	}
}

// matrixSizes returns numbers of rows and columns.
func matrixSizes() [][2]int {
	return [][2]int{{0, 0}, {0, 3}, {3, 0}, {1, 1}, {1, 2}, {2, 1}, {2, 2}, {2, 3}, {3, 2}, {3, 3}, {1, 60}, {60, 1}, {0, 60}, {60, 0}, {7, 8}, {8, 7}, {7, 7}, {2, 7}, {8, 2}, {1, 0}, {0, 1}}
}

// matrixPairs returns pairs of matrices, of which the first one has as many columns as the second one has rows.
func matrixPairs() [][2]impl.Tensor {
	var list [][2]impl.Tensor
	for _, a := range matrixSizes() {
		for _, b := range matrixSizes() {
			if a[1] != b[0] {
				continue
			}
			for _, first := range matricesFor(a[0], a[1]) {
				for _, second := range matricesFor(b[0], b[1]) {
					list = append(list, [2]impl.Tensor{first, second})
				}
			}
		}
	}
	return list
}

func TestP97ProductsTurnRound(t *testing.T) {
	for _, pair := range matrixPairs() {
		a, b := pair[0], pair[1]
		n := network{[]impl.Tensor{a, b}, [][]int{{0, 1}, {1, 2}}, ints(0, 2)}
		product, ok := impl.MatMul(a, b)
		other, also := impl.MatMul(plainTurn(b, ints(1, 0)), plainTurn(a, ints(1, 0)))
		want, can := n.plainContract()
		if !can {
			checkNoTensor(t, "MatMul", pair, product, ok)
			checkNoTensor(t, "MatMul turned", pair, other, also)
			continue
		}
		checkTensor(t, "MatMul", pair, product, ok, want)
		checkTensor(t, "MatMul turned", pair, other, also, impl.TurnTensor(product, ints(1, 0)))
	}
}

func TestP98ProductsGoTogether(t *testing.T) {
	together := 0
	for _, pair := range matrixPairs() {
		ab, ok := impl.MatMul(pair[0], pair[1])
		for _, size := range matrixSizes() {
			if !ok || size[0] != pair[1].Shape[1] {
				continue
			}
			for _, c := range matricesFor(size[0], size[1]) {
				bc, _ := impl.MatMul(pair[1], c)
				first, can := impl.MatMul(ab, c)
				second, also := impl.MatMul(pair[0], bc)
				if can && also && !sameTensors(first, second) {
					t.Fatalf("MatMul of %v and %v is %v or %v", pair, c, first, second)
				}
				if can && also {
					together++
				}
			}
		}
	}
	if together == 0 {
		t.Fatal("no products went together")
	}
}

func TestP99TracesDoNotSeeTurns(t *testing.T) {
	for n := range 8 {
		for _, a := range matricesFor(n, n) {
			want := 0
			for i := range n {
				want += a.Values[i*n+i]
			}
			got, ok := impl.TraceOf(a)
			turned, also := impl.TraceOf(impl.TurnTensor(a, ints(1, 0)))
			if !ok || !also || got != want || turned != want {
				t.Fatalf("TraceOf(%v) = %d, %v, and %d, %v if turned, not %d", a, got, ok, turned, also, want)
			}
		}
	}
	mem := slices.Repeat(ints(200, 3, 77), 20)
	for n := range 8 {
		v := vw(0, ints(n, n), n, 1)
		a, _ := impl.TensorOf(mem, v)
		diagonal, _ := impl.DiagonalOf(v, 0, 1)
		if got, ok := impl.TraceOf(a); !ok || got != impl.SumView(mem, diagonal) {
			t.Fatalf("TraceOf(%v) = %d, %v, but the diagonal is %v", a, got, ok, impl.LoadView(mem, diagonal))
		}
	}
}

func TestP100TracesOfProductsGoRound(t *testing.T) {
	round := 0
	for _, size := range matrixSizes() {
		for _, a := range matricesFor(size[0], size[1]) {
			for _, b := range matricesFor(size[1], size[0]) {
				ab, ok := impl.MatMul(a, b)
				ba, also := impl.MatMul(b, a)
				if !ok || !also {
					continue
				}
				first, can := impl.TraceOf(ab)
				second, could := impl.TraceOf(ba)
				if can != could || first != second {
					t.Fatalf("TraceOf the products of %v and %v is %d, %v or %d, %v", a, b, first, can, second, could)
				}
				round++
			}
		}
	}
	if round == 0 {
		t.Fatal("no products went round")
	}
}

func TestP101TurnedBackIsAsBefore(t *testing.T) {
	for _, a := range manyTensors() {
		for _, order := range manyOrders(len(a.Shape)) {
			turned := impl.TurnTensor(a, order)
			checkTensor(t, "TurnTensor", a, turned, true, plainTurn(a, order))
			back := make([]int, len(order))
			for i, d := range order {
				back[d] = i
			}
			checkTensor(t, "TurnTensor", turned, impl.TurnTensor(turned, back), true, a)
			if !slices.Equal(slices.Sorted(slices.Values(turned.Values)), slices.Sorted(slices.Values(a.Values))) {
				t.Fatalf("TurnTensor(%v, %v) = %v has other values", a, order, turned)
			}
		}
	}
}

func TestP102SumsOverDimensionsAddUp(t *testing.T) {
	for _, a := range manyTensors() {
		for d := range a.Shape {
			got, ok := impl.SumDim(a, d)
			if !plainShape(without(a.Shape, d)) {
				checkNoTensor(t, "SumDim", a, got, ok)
				continue
			}
			want := plainSumDim(a, d)
			if !plainIsTensor(want) {
				checkNoTensor(t, "SumDim", a, got, ok)
				continue
			}
			checkTensor(t, "SumDim", a, got, ok, want)
			if len(got.Shape) != len(a.Shape)-1 || sumOfAll(got.Values) != sumOfAll(a.Values) {
				t.Fatalf("SumDim(%v, %d) = %v does not add up", a, d, got)
			}
		}
	}
}
