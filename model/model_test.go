package model_test

import (
	"math"
	"math/rand/v2"
	"testing"

	"bootjack/model"
)

// far is numbers that are far away, or near when their highest bits are lost.
var far = []int{
	math.MinInt, math.MinInt + 1, math.MinInt + 1024, -1 << 32, -1<<32 + 1, -1<<32 + 1024, -65536, -65535, -64512, -2048, -256, -255,
	65536, 65537, 66560, 1 << 32, 1<<32 + 1, 1<<32 + 1024, 1<<62 + 1, math.MaxInt - 1023, math.MaxInt - 1, math.MaxInt,
}

// bits is bits: 0, and others.
var bits = []int{0, 1, 2, 3, 255, 256, 65536, 1 << 32, math.MaxInt, -1, -2, -256, -65536, -1 << 32, math.MinInt}

// held is p in the range of the chapter.
func held(p int) int {
	switch {
	case p < 31:
		return 31
	case p > 2017:
		return 2017
	}
	return p
}

// adapted is what the chapter says of p, which is never below 0 here, and a bit.
func adapted(p, bit int) int {
	p = held(p)
	if bit != 0 {
		return p - int(math.Floor(float64(p)/32))
	}
	return p + int(math.Floor(float64(2048-p)/32))
}

func TestP1501Hold(t *testing.T) {
	for p := -5000; p <= 10000; p++ {
		if got, want := model.Hold(p), held(p); got != want {
			t.Fatalf("P1501: Hold(%d): %d, want %d", p, got, want)
		}
	}
	for _, p := range far {
		if got, want := model.Hold(p), held(p); got != want {
			t.Errorf("P1501: Hold(%d): %d, want %d", p, got, want)
		}
	}
}

func TestP1501HoldEnds(t *testing.T) {
	for p, want := range map[int]int{
		math.MinInt: 31, -31: 31, -1: 31, 0: 31, 1: 31, 30: 31, 31: 31, 32: 32,
		1023: 1023, 1024: 1024, 1025: 1025,
		2016: 2016, 2017: 2017, 2018: 2017, 2047: 2017, 2048: 2017, 2049: 2017, math.MaxInt: 2017,
	} {
		if got := model.Hold(p); got != want {
			t.Errorf("P1501: Hold(%d): %d, want %d", p, got, want)
		}
	}
}

func TestP1501AdaptExamples(t *testing.T) {
	for _, x := range []struct{ p, bit, want int }{
		{1024, 0, 1056}, {1024, 1, 992},
		{31, 0, 94}, {31, 1, 31}, {32, 0, 95}, {32, 1, 31}, {63, 1, 62}, {64, 1, 62}, {65, 1, 63},
		{2017, 0, 2017}, {2016, 0, 2017}, {1985, 0, 1986}, {1984, 0, 1986}, {1983, 0, 1985},
		{2017, 1, 1954}, {2016, 1, 1953}, {2015, 1, 1953},
		{0, 0, 94}, {30, 0, 94}, {-1000, 1, 31}, {math.MinInt, 0, 94}, {math.MinInt, 1, 31},
		{2018, 1, 1954}, {2048, 0, 2017}, {2048, 1, 1954}, {math.MaxInt, 0, 2017}, {math.MaxInt, 1, 1954},
	} {
		if got := model.Adapt(x.p, x.bit); got != x.want {
			t.Errorf("P1501: Adapt(%d, %d): %d, want %d", x.p, x.bit, got, x.want)
		}
	}
}

func TestP1501AdaptEach(t *testing.T) {
	for _, bit := range bits {
		for p := -300; p <= 2400; p++ {
			if got, want := model.Adapt(p, bit), adapted(p, bit); got != want {
				t.Fatalf("P1501: Adapt(%d, %d): %d, want %d", p, bit, got, want)
			}
		}
		for _, p := range far {
			if got, want := model.Adapt(p, bit), adapted(p, bit); got != want {
				t.Errorf("P1501: Adapt(%d, %d): %d, want %d", p, bit, got, want)
			}
		}
	}
}

// What Adapt returns is a probability, and the same bit again and again leads
// to the end of the range, where it stays.
func TestP1501AdaptStays(t *testing.T) {
	for start := 31; start <= 2017; start++ {
		for bit, end := range []int{2017, 31} {
			p := start
			for range 400 {
				next := model.Adapt(p, bit)
				if next < 31 || next > 2017 || bit == 0 && next < p || bit == 1 && next > p {
					t.Fatalf("P1501: Adapt(%d, %d): %d", p, bit, next)
				}
				p = next
			}
			if p != end {
				t.Fatalf("P1501: %d after 400 bits %d: %d, want %d", start, bit, p, end)
			}
		}
	}
}

// nodes lists what every At of t returns, for the nodes from -300 to 700.
func nodes(t *model.Tree) [1001]int {
	var all [1001]int
	for i := range all {
		all[i] = t.At(i - 300)
	}
	return all
}

// wantNodes fails the test unless t has n nodes and nothing was done to them.
func wantNodes(t *testing.T, what string, tree *model.Tree, n int) {
	t.Helper()
	for i, got := range nodes(tree) {
		node, want := i-300, 0
		if node >= 1 && node <= n {
			want = 1024
		}
		if got != want {
			t.Errorf("P1502: %s: At(%d): %d, want %d", what, node, got, want)
		}
	}
	for _, node := range far {
		if got := tree.At(node); got != 0 {
			t.Errorf("P1502: %s: At(%d): %d, want 0", what, node, got)
		}
	}
}

func TestP1502New(t *testing.T) {
	for n, want := range map[int]int{1: 1, 2: 3, 3: 7, 4: 15, 5: 31, 6: 63, 7: 127, 8: 255} {
		wantNodes(t, "a tree", model.New(n), want)
	}
	for _, n := range []int{0, -1, -2, -7, -8, -255, -256, -1<<32 + 8, -1 << 32, math.MinInt, math.MinInt + 8} {
		wantNodes(t, "a tree of less than 1 bit", model.New(n), 1)
	}
	for _, n := range []int{9, 10, 16, 31, 32, 63, 64, 65, 256, 257, 1<<32 + 1, 1 << 62, math.MaxInt} {
		wantNodes(t, "a tree of more than 8 bits", model.New(n), 255)
	}
}

func TestP1502Turn(t *testing.T) {
	for size := 1; size <= 8; size++ {
		for node := 1; node < 1<<size; node++ {
			for _, bit := range bits {
				tree := model.New(size)
				want := nodes(tree)
				tree.Turn(node, bit)
				want[300+node] = 992
				if bit == 0 {
					want[300+node] = 1056
				}
				if nodes(tree) != want {
					t.Fatalf("P1502: a tree of %d bits after Turn(%d, %d): %v", size, node, bit, nodes(tree))
				}
			}
		}
	}
}

func TestP1502TurnNoNode(t *testing.T) {
	for size := 1; size <= 8; size++ {
		tree := model.New(size)
		for node := -600; node <= 1200; node++ {
			if node < 1 || node >= 1<<size {
				tree.Turn(node, 0)
				tree.Turn(node, 1)
				tree.Turn(node, 1)
			}
		}
		for _, node := range far {
			tree.Turn(node, 0)
			tree.Turn(node, 1)
			tree.Turn(node, 1)
		}
		wantNodes(t, "after Turn of nodes that there are not", tree, 1<<size-1)
	}
}

// A node goes through all probabilities, to both ends and back.
func TestP1502TurnFar(t *testing.T) {
	for _, size := range []int{1, 6, 8} {
		for _, node := range []int{1, 1<<size - 1} {
			tree, p := model.New(size), 1024
			for i := range 2000 {
				bit := i / 400 % 2
				tree.Turn(node, bit)
				p = adapted(p, bit)
				if got := tree.At(node); got != p {
					t.Fatalf("P1502: node %d of %d bits after %d times: %d, want %d", node, size, i+1, got, p)
				}
			}
		}
	}
}

func TestP1502Random(t *testing.T) {
	source := rand.New(rand.NewPCG(15, 2))
	for size := 1; size <= 8; size++ {
		tree := model.New(size)
		want := nodes(tree)
		for range 5000 {
			node, bit := source.IntN(1<<size+20)-10, bits[source.IntN(2)*source.IntN(len(bits))]
			tree.Turn(node, bit)
			if node >= 1 && node < 1<<size {
				want[300+node] = adapted(want[300+node], bit)
			}
			if got := tree.At(node); got != want[300+node] {
				t.Fatalf("P1502: node %d of %d bits: %d, want %d", node, size, got, want[300+node])
			}
		}
		if nodes(tree) != want {
			t.Fatalf("P1502: a tree of %d bits: %v, want %v", size, nodes(tree), want)
		}
	}
}

func TestP1502Independent(t *testing.T) {
	for size := 1; size <= 8; size++ {
		one, two := model.New(size), model.New(size)
		for node := range 1 << size {
			one.Turn(node, node%2)
		}
		three := model.New(size)
		wantNodes(t, "made ahead of another's Turn", two, 1<<size-1)
		wantNodes(t, "made after another's Turn", three, 1<<size-1)
		was := nodes(one)
		for node := range 1 << size {
			two.Turn(node, 1)
			three.Turn(node, 0)
		}
		if nodes(one) != was {
			t.Fatalf("P1502: a tree of %d bits changed with another", size)
		}
	}
}

// At only reads.
func TestP1502AtStays(t *testing.T) {
	tree := model.New(6)
	tree.Turn(33, 0)
	was := nodes(tree)
	for range 5 {
		if nodes(tree) != was {
			t.Fatal("P1502: At changed a tree")
		}
	}
}

func TestP1502NilTree(t *testing.T) {
	var none *model.Tree
	for _, bit := range bits {
		for node := -300; node <= 700; node++ {
			none.Turn(node, bit)
		}
		for _, node := range far {
			none.Turn(node, bit)
		}
	}
	wantNodes(t, "a nil Tree", none, 0)
}

// A Tree that New did not make has no nodes.
func TestP1502ZeroTree(t *testing.T) {
	var zero model.Tree
	for node := -300; node <= 700; node++ {
		zero.Turn(node, 1)
	}
	wantNodes(t, "the zero Tree", &zero, 0)
}
