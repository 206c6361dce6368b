package coder_test

import (
	"bytes"
	"math"
	"math/big"
	"math/rand/v2"
	"slices"
	"testing"

	"bootjack/coder"
	"bootjack/model"
)

// others is bits other than 0 and 1, some of which are 0 when their highest
// bits or their lowest ones are lost.
var others = []int{2, 3, 255, 256, 65536, 1 << 31, 1 << 32, 1 << 62, math.MaxInt, -1, -2, -256, -65536, -1 << 32, math.MinInt}

// far is probabilities that are far away, or near when their highest bits are lost.
var far = []int{
	math.MinInt, math.MinInt + 1024, -1 << 32, -1<<32 + 1024, -65536, -64512, -2048, -1024,
	66560, 1 << 32, 1<<32 + 1024, 1<<62 + 1, math.MaxInt - 1023, math.MaxInt,
}

// page is a coder as the chapter words it.
type page struct {
	low, width *big.Int
	grown      int
}

func newPage() *page {
	return &page{low: new(big.Int), width: big.NewInt(1<<32 - 1)}
}

// held is p in the range of chapter 15.
func held(p int) int {
	return min(max(p, 31), 2017)
}

// adapted is what chapter 15 says of p and a bit.
func adapted(p, bit int) int {
	p = held(p)
	if bit == 0 {
		return p + (2048-p)/32
	}
	return p - p/32
}

func (g *page) bit(p, bit int) {
	bound := new(big.Int).Rsh(g.width, 11)
	bound.Mul(bound, big.NewInt(int64(held(p))))
	if bit == 0 {
		g.width = bound
	} else {
		g.low.Add(g.low, bound)
		g.width.Sub(g.width, bound)
	}
	g.renormalize()
}

func (g *page) half(bit int) {
	g.width.Rsh(g.width, 1)
	if bit != 0 {
		g.low.Add(g.low, g.width)
	}
	g.renormalize()
}

func (g *page) renormalize() {
	if g.width.Cmp(big.NewInt(1<<24)) < 0 {
		g.low.Lsh(g.low, 8)
		g.width.Lsh(g.width, 8)
		g.grown++
	}
}

func (g *page) tree(odds []int, size, v int) {
	node := 1
	for i := size - 1; i >= 0; i-- {
		bit := v >> i % 2
		g.bit(odds[node], bit)
		odds[node] = adapted(odds[node], bit)
		node = 2*node + bit
	}
}

func (g *page) done() []byte {
	return g.low.FillBytes(make([]byte, 4+g.grown))
}

// pair is a coder and the page that is given the same.
type pair struct {
	t *testing.T
	c *coder.Coder
	g *page
}

func newPair(t *testing.T) pair {
	return pair{t, coder.New(), newPage()}
}

func (x pair) bit(p, bit int) int {
	x.t.Helper()
	next := x.c.Bit(p, bit)
	x.g.bit(p, bit)
	if want := adapted(p, bit); next != want {
		x.t.Fatalf("P1601: Bit(%d, %d): %d, want %d", p, bit, next, want)
	}
	return next
}

func (x pair) half(bit int) {
	x.c.Half(bit)
	x.g.half(bit)
}

// want fails the test unless the coder has encoded what the page has.
func (x pair) want(what string, of ...int) {
	x.t.Helper()
	if got, want := x.c.Done(), x.g.done(); !bytes.Equal(got, want) {
		x.t.Fatalf("P1601: %s %v: %v, want %v", what, of, got, want)
	}
}

// width fails the test unless the page's range is want: then the test is wrong.
func (x pair) width(want int64) {
	x.t.Helper()
	if !x.g.width.IsInt64() || x.g.width.Int64() != want {
		x.t.Fatalf("the range is %v, not %d", x.g.width, want)
	}
}

// wantNodes fails the test unless the nodes of the tree are odds, from node 1 on.
func wantNodes(t *testing.T, what string, tree *model.Tree, odds []int) {
	t.Helper()
	for node := 1; node < len(odds); node++ {
		if got := tree.At(node); got != odds[node] {
			t.Fatalf("P1601: %s: node %d: %d, want %d", what, node, got, odds[node])
		}
	}
}

// newOdds is the nodes of a tree to which nothing was done.
func newOdds(size int) []int {
	return slices.Repeat([]int{1024}, 1<<size)
}

func TestP1601Examples(t *testing.T) {
	c := coder.New()
	if got := c.Done(); !bytes.Equal(got, []byte{0, 0, 0, 0}) {
		t.Errorf("P1601: Done of a new coder: %v", got)
	}
	c.Half(1)
	if got := c.Done(); !bytes.Equal(got, []byte{127, 255, 255, 255}) {
		t.Errorf("P1601: Done after Half(1): %v", got)
	}
}

// These are worked out from the chapter, by hand.
func TestP1601Known(t *testing.T) {
	for _, x := range []struct {
		what string
		play func(c *coder.Coder)
		want []byte
	}{
		{"Half(0)", func(c *coder.Coder) { c.Half(0) }, []byte{0, 0, 0, 0}},
		{"Half(1), Half(1)", func(c *coder.Coder) { c.Half(1); c.Half(1) }, []byte{191, 255, 255, 254}},
		{"Bit(1024, 0)", func(c *coder.Coder) { c.Bit(1024, 0) }, []byte{0, 0, 0, 0}},
		{"Bit(1024, 1)", func(c *coder.Coder) { c.Bit(1024, 1) }, []byte{127, 255, 252, 0}},
		{"Bit(31, 1)", func(c *coder.Coder) { c.Bit(31, 1) }, []byte{3, 223, 255, 225}},
		{"Bit(2017, 1)", func(c *coder.Coder) { c.Bit(2017, 1) }, []byte{252, 31, 248, 31}},
		{"Bit(31, 0), Bit(31, 0)", func(c *coder.Coder) { c.Bit(31, 0); c.Bit(31, 0) }, []byte{0, 0, 0, 0, 0}},
		{"Bit(31, 0), Bit(31, 1)", func(c *coder.Coder) { c.Bit(31, 0); c.Bit(31, 1) }, []byte{0, 15, 3, 225}},
		{"Bit(31, 0), Bit(31, 0), Half(1)", func(c *coder.Coder) { c.Bit(31, 0); c.Bit(31, 0); c.Half(1) }, []byte{0, 7, 129, 240, 128}},
	} {
		c := coder.New()
		x.play(c)
		if got := c.Done(); !bytes.Equal(got, x.want) {
			t.Errorf("P1601: %s: %v, want %v", x.what, got, x.want)
		}
	}
}

// Every probability is held, and decides of the range that is left: what the
// next bit adds to low shows it.
func TestP1601BitEach(t *testing.T) {
	each := slices.Clone(far)
	for p := -100; p <= 2200; p++ {
		each = append(each, p)
	}
	for _, p := range each {
		for bit := range 2 {
			for before := range 3 {
				x := newPair(t)
				for i := range 5 * before {
					x.bit(300+500*(i%3), i%2)
				}
				x.bit(p, bit)
				x.want("after Bit", p, bit)
				x.bit(p, 1-bit)
				x.want("after Bit with both bits", p, bit)
				x.bit(1024, 1)
				x.half(1)
				x.want("after Bit and more", p, bit)
			}
		}
	}
}

func TestP1601OtherBits(t *testing.T) {
	for _, bit := range others {
		for _, p := range []int{-5, 0, 31, 32, 1000, 1024, 2016, 2017, 5000} {
			c, one := coder.New(), coder.New()
			for range 30 {
				if got, want := c.Bit(p, bit), one.Bit(p, 1); got != want {
					t.Fatalf("P1601: Bit(%d, %d): %d, want %d", p, bit, got, want)
				}
				c.Half(bit)
				one.Half(1)
				if got, want := c.Done(), one.Done(); !bytes.Equal(got, want) {
					t.Fatalf("P1601: Bit(%d, %d) and Half: %v, want %v", p, bit, got, want)
				}
			}
			x := newPair(t)
			x.bit(p, bit)
			x.half(bit)
			x.bit(p, bit)
			x.want("Bit, Half and Bit of", p, bit)
		}
	}
}

// The range is odd at first, and Half leaves the same for either bit.
func TestP1601Half(t *testing.T) {
	for bits := range 1 << 10 {
		x := newPair(t)
		for i := range 10 {
			x.half(bits >> i & 1)
			x.want("Half of the bits of", bits, i)
		}
		x.bit(1000, 1)
		x.half(1)
		x.want("Half of the bits and more", bits)
	}
}

// A range of 2^24 is left as it is, and the one below it is multiplied.
func TestP1601RenormalizeAt(t *testing.T) {
	for _, c := range []struct {
		what  string
		play  func(x pair)
		width int64
		bytes int
	}{
		{"8 times Half(0)", func(x pair) {
			for range 8 {
				x.half(0)
			}
		}, (1<<24 - 1) << 8, 5},
		{"7 times Half(1)", func(x pair) {
			for range 7 {
				x.half(1)
			}
		}, 1<<25 - 1, 4},
		{"Half of 2^25", func(x pair) { toEven(x); x.bit(1024, 0); x.half(0) }, 1 << 24, 4},
		{"Half(1) of 2^25", func(x pair) { toEven(x); x.bit(1024, 0); x.half(1) }, 1 << 24, 4},
		{"Half of 2^24", func(x pair) { toEven(x); x.bit(1024, 0); x.half(1); x.half(1) }, 1 << 31, 5},
		{"Bit(1024, 0) of 2^25", func(x pair) { toEven(x); x.bit(1024, 0); x.bit(1024, 0) }, 1 << 24, 4},
		{"Bit(1024, 1) of 2^25", func(x pair) { toEven(x); x.bit(1024, 0); x.bit(1024, 1) }, 1 << 24, 4},
		{"Bit(1023, 0) of 2^25", func(x pair) { toEven(x); x.bit(1024, 0); x.bit(1023, 0) }, 1 << 22 * 1023, 5},
		{"Bit(1025, 1) of 2^25", func(x pair) { toEven(x); x.bit(1024, 0); x.bit(1025, 1) }, 1 << 22 * 1023, 5},
		{"Bit(31, 0) of 2^24", func(x pair) { toEven(x); x.bit(1024, 0); x.half(1); x.bit(31, 0) }, 1 << 21 * 31, 5},
		{"Bit(2017, 1) of 2^24", func(x pair) { toEven(x); x.bit(1024, 0); x.half(1); x.bit(2017, 1) }, 1 << 21 * 31, 5},
	} {
		x := newPair(t)
		c.play(x)
		x.width(c.width)
		if got := x.c.Done(); len(got) != c.bytes {
			t.Errorf("P1601: %s: %d bytes, want %d", c.what, len(got), c.bytes)
		}
		x.want(c.what)
		x.bit(1500, 1)
		x.half(1)
		x.want(c.what + " and more")
	}
}

// toEven leads to a range of little more than 2^26.
func toEven(x pair) {
	x.bit(1024, 1)
	for range 5 {
		x.half(0)
	}
	x.width(1<<26 + 31)
}

// below is by how much low is below 2^31, as the renormalizations multiplied it.
func (g *page) below() uint64 {
	top := new(big.Int).Lsh(big.NewInt(1), uint(31+8*g.grown))
	return top.Sub(top, g.low).Uint64()
}

// bound is the range of a bit 0 with the probability p.
func (g *page) bound(p int) uint64 {
	return g.width.Uint64() >> 11 * uint64(p)
}

// straddle encodes bits, up to n renormalizations, with which low stays below
// 2^31 and low plus the range above it.
func straddle(x pair, source *rand.Rand, n int) {
	for x.g.grown < n {
		p := 31 + source.IntN(1987)
		switch below := x.g.below(); {
		case below < x.g.bound(p):
			x.bit(p, 0)
		case below > x.g.bound(p):
			x.bit(p, 1)
		}
	}
}

// cross encodes bits with which low comes to 2^31 or above it.
func cross(x pair) {
	for x.g.bound(2017) < x.g.below() {
		x.bit(1024, 1)
	}
	x.bit(2017, 1)
}

// A carry goes through all the bytes 255 there are.
func TestP1601Carry(t *testing.T) {
	source := rand.New(rand.NewPCG(16, 1))
	for n := range 400 {
		x := newPair(t)
		straddle(x, source, n)
		x.want("ahead of a carry, renormalizations", n)
		was := x.c.Done()
		if n > 0 && !bytes.Equal(was[:n], append([]byte{127}, bytes.Repeat([]byte{255}, n-1)...)) {
			t.Fatalf("no carry is ahead of %v", was)
		}
		kept := slices.Clone(was)
		cross(x)
		x.want("after a carry, renormalizations", n)
		if n > 0 && !bytes.Equal(x.c.Done()[:n], append([]byte{128}, make([]byte, n-1)...)) {
			t.Fatalf("P1601: %v after a carry", x.c.Done())
		}
		if !bytes.Equal(was, kept) {
			t.Fatalf("P1601: a carry changed what Done had returned")
		}
		x.bit(700, 1)
		x.half(1)
		x.want("after a carry and more, renormalizations", n)
	}
}

// A carry begins where the last four bytes of low come to 2^32 exactly.
func TestP1601CarryAt(t *testing.T) {
	for p, want := range map[int][]byte{
		31: {127, 255, 255, 224, 0, 0},
		32: {128, 0, 0, 0, 0, 0},
		33: {128, 0, 0, 32, 0, 0},
	} {
		x := newPair(t)
		toEven(x)
		x.bit(1024, 0)
		for range 9 {
			x.half(0)
		}
		x.width(1 << 24)
		x.want("ahead of a carry")
		x.bit(p, 1)
		x.want("at a carry, probability", p)
		if got := x.c.Done(); !bytes.Equal(got, want) {
			t.Errorf("P1601: at a carry, probability %d: %v, want %v", p, got, want)
		}
	}
}

// The likeliest bits and the least likely ones, in long rows.
func TestP1601Rows(t *testing.T) {
	for _, p := range []int{math.MinInt, 31, 32, 63, 64, 512, 1023, 1024, 1025, 1536, 2016, 2017, math.MaxInt} {
		for _, row := range [][]int{{0}, {1}, {0, 1}, {1, 0}, {1, 1, 0}, {0, 0, 1}} {
			x, halves := newPair(t), newPair(t)
			for i := range 600 {
				bit := row[i%len(row)]
				x.bit(p, bit)
				halves.bit(p, bit)
				halves.half(1 - bit)
			}
			x.want("rows of Bit", p, row[0])
			halves.want("rows of Bit and Half", p, row[0])
		}
	}
	for _, row := range [][]int{{0}, {1}, {0, 1}, {1, 1, 0}} {
		x := newPair(t)
		for i := range 3000 {
			x.half(row[i%len(row)])
		}
		x.want("rows of Half")
	}
}

// The probability adapts from bit to bit, as layers above use it.
func TestP1601Adapts(t *testing.T) {
	source := rand.New(rand.NewPCG(16, 2))
	for _, ones := range []int{0, 1, 10, 50, 90, 99, 100} {
		x, p := newPair(t), 1024
		for range 2000 {
			bit := 0
			if source.IntN(100) < ones {
				bit = 1
			}
			p = x.bit(p, bit)
		}
		x.want("adapting bits, ones", ones)
	}
}

func TestP1601Random(t *testing.T) {
	source := rand.New(rand.NewPCG(16, 3))
	for range 300 {
		x := newPair(t)
		for range source.IntN(400) {
			bit := source.IntN(2)
			switch source.IntN(6) {
			case 0:
				x.half(bit)
			case 1:
				x.half(others[source.IntN(len(others))])
			case 2:
				x.bit(source.IntN(2600)-300, others[source.IntN(len(others))])
			case 3:
				x.bit(far[source.IntN(len(far))], bit)
			default:
				x.bit(31+source.IntN(1987), bit)
			}
			x.want("random bits")
		}
	}
}

func TestP1601Long(t *testing.T) {
	source := rand.New(rand.NewPCG(16, 4))
	x := newPair(t)
	for range 100000 {
		if source.IntN(3) == 0 {
			x.half(source.IntN(2))
		} else {
			x.bit(31+source.IntN(1987), source.IntN(2))
		}
	}
	x.want("100000 bits")
}

// Done changes nothing, however often it is called, and its bytes are its own.
func TestP1601DoneStays(t *testing.T) {
	source := rand.New(rand.NewPCG(16, 5))
	x, quiet := newPair(t), coder.New()
	for range 2000 {
		p, bit := 31+source.IntN(1987), source.IntN(2)
		x.bit(p, bit)
		quiet.Bit(p, bit)
		first, second := x.c.Done(), x.c.Done()
		if !bytes.Equal(first, second) {
			t.Fatalf("P1601: Done: %v, then %v", first, second)
		}
		for i := range first {
			first[i] ^= 255
			second[i]++
		}
		x.want("after Done was written to")
	}
	if !bytes.Equal(x.c.Done(), quiet.Done()) {
		t.Fatal("P1601: Done changed the coder")
	}
}

// Two results of Done share no memory, not even behind their ends.
func TestP1601DoneApart(t *testing.T) {
	c := coder.New()
	for n := range 200 {
		first, second := c.Done(), c.Done()
		kept := slices.Clone(second)
		for i := range cap(first) {
			first[:cap(first)][i] ^= 255
		}
		if !bytes.Equal(second, kept) || !bytes.Equal(c.Done(), kept) {
			t.Fatalf("P1601: Done after %d bits shares memory", n)
		}
		c.Half(n / 3 % 2)
	}
}

func TestP1601Independent(t *testing.T) {
	source := rand.New(rand.NewPCG(16, 6))
	pairs := []pair{newPair(t), newPair(t), newPair(t)}
	for range 1000 {
		x := pairs[source.IntN(len(pairs))]
		x.bit(31+source.IntN(1987), source.IntN(2))
		x.half(source.IntN(2))
	}
	for i, x := range pairs {
		x.want("one of several coders", i)
	}
	newPair(t).want("a coder made after others")
}

// Every number of every size, twice each, so that the second one meets the
// probabilities that the first one left.
func TestP1601TreeEach(t *testing.T) {
	for size := 1; size <= 8; size++ {
		for v := range 1 << size {
			x, tree, odds := newPair(t), model.New(size), newOdds(size)
			for range 2 {
				x.c.Tree(tree, v)
				x.g.tree(odds, size, v)
				x.want("Tree of bits and number", size, v)
				wantNodes(t, "after Tree", tree, odds)
			}
			x.bit(900, 1)
			x.half(1)
			x.want("Tree and more of bits and number", size, v)
		}
	}
}

// What Tree encodes is what Bit encodes, and what Turn does to the nodes.
func TestP1601TreeKnown(t *testing.T) {
	c, tree := coder.New(), model.New(3)
	c.Tree(tree, 6)
	wantNodes(t, "Tree of 6", tree, []int{0, 992, 1024, 992, 1024, 1024, 1024, 1056})
	c.Tree(tree, 1)
	wantNodes(t, "Tree of 6 and 1", tree, []int{0, 1024 - 32 + (2048-992)/32, 1056, 992, 992, 1024, 1024, 1056})
	d := coder.New()
	for _, x := range []struct{ p, bit int }{{1024, 1}, {1024, 1}, {1024, 0}, {992, 0}, {1024, 0}, {1024, 1}} {
		d.Bit(x.p, x.bit)
	}
	if got, want := c.Done(), d.Done(); !bytes.Equal(got, want) {
		t.Errorf("P1601: Tree of 6 and 1: %v, want %v", got, want)
	}
}

func TestP1601TreeRandom(t *testing.T) {
	source := rand.New(rand.NewPCG(16, 7))
	for range 60 {
		x := newPair(t)
		var trees []*model.Tree
		var odds [][]int
		for size := range 9 {
			trees, odds = append(trees, model.New(size)), append(odds, newOdds(max(size, 1)))
		}
		for range 200 {
			size := source.IntN(9)
			v := source.IntN(1 << max(size, 1))
			switch source.IntN(6) {
			case 0:
				x.half(v & 1)
			case 1:
				x.bit(v*8, v&1)
			case 2:
				x.c.Tree(trees[size], v|1<<max(size, 1))
				x.c.Tree(trees[size], -1-v)
			case 3:
				if v > 0 {
					trees[size].Turn(v, v&1)
					odds[size][v] = adapted(odds[size][v], v&1)
				}
			default:
				x.c.Tree(trees[size], v)
				x.g.tree(odds[size], max(size, 1), v)
			}
		}
		x.want("random numbers")
		for size := range trees {
			wantNodes(t, "random numbers", trees[size], odds[size])
		}
	}
}

// One tree may serve several coders, and stays in the state that they leave.
func TestP1601TreeOfTwo(t *testing.T) {
	tree, odds := model.New(6), newOdds(6)
	x, y := newPair(t), newPair(t)
	for v := range 64 {
		x.c.Tree(tree, v)
		x.g.tree(odds, 6, v)
		y.c.Tree(tree, 63-v)
		y.g.tree(odds, 6, 63-v)
	}
	x.want("a tree of two coders")
	y.want("a tree of two coders")
	wantNodes(t, "a tree of two coders", tree, odds)
}

// New of model limits the sizes, and the numbers with them.
func TestP1601TreeLimits(t *testing.T) {
	for _, c := range []struct{ asked, size int }{{-5, 1}, {0, 1}, {9, 8}, {64, 8}, {math.MaxInt, 8}} {
		x, tree, odds := newPair(t), model.New(c.asked), newOdds(c.size)
		for v := -10; v < 600; v++ {
			x.c.Tree(tree, v)
			if v >= 0 && v < 1<<c.size {
				x.g.tree(odds, c.size, v)
			}
		}
		x.want("a tree of", c.asked)
		wantNodes(t, "a tree of another size", tree, odds)
	}
}

func TestP1601TreeNoNumber(t *testing.T) {
	for size := 1; size <= 8; size++ {
		x, tree, odds := newPair(t), model.New(size), newOdds(size)
		for i := range 20 {
			x.c.Tree(tree, i%(1<<size))
			x.g.tree(odds, size, i%(1<<size))
		}
		numbers := slices.Concat(far, others[6:])
		for v := -600; v < 1200; v++ {
			numbers = append(numbers, v)
		}
		for _, v := range numbers {
			if v < 0 || v >= 1<<size {
				x.c.Tree(tree, v)
				x.c.Tree(nil, v)
			}
		}
		x.want("after no number of bits", size)
		wantNodes(t, "after no number", tree, odds)
		x.bit(800, 1)
		x.half(1)
		x.want("after no number and more, bits", size)
	}
}

// A nil tree and one without nodes encode nothing, also between other bits.
func TestP1601TreeNone(t *testing.T) {
	for _, tree := range []*model.Tree{nil, new(model.Tree)} {
		x := newPair(t)
		for v := -300; v < 600; v++ {
			x.c.Tree(tree, v)
		}
		for _, v := range slices.Concat(far, others) {
			x.c.Tree(tree, v)
		}
		x.want("numbers without a tree")
		for i := range 50 {
			x.bit(1500, i%2)
			x.c.Tree(tree, 0)
			x.c.Tree(tree, 1)
			x.half(1)
		}
		x.want("numbers without a tree, between bits")
	}
}

func TestP1601NilCoder(t *testing.T) {
	var none *coder.Coder
	tree := model.New(4)
	for _, bit := range append([]int{0, 1}, others...) {
		for _, p := range append([]int{-1, 0, 31, 1024, 2017, 2048}, far...) {
			if got := none.Bit(p, bit); got != 0 {
				t.Errorf("P1601: Bit(%d, %d) of a nil Coder: %d", p, bit, got)
			}
		}
		none.Half(bit)
		none.Tree(tree, bit)
		none.Tree(nil, bit)
		if got := none.Done(); len(got) != 0 {
			t.Errorf("P1601: Done of a nil Coder: %v", got)
		}
	}
	for v := range 16 {
		none.Tree(tree, v)
	}
	wantNodes(t, "after Tree of a nil Coder", tree, newOdds(4))
}

// A Coder that New did not make has the state that one has at first.
func TestP1601ZeroCoder(t *testing.T) {
	x := pair{t, new(coder.Coder), newPage()}
	x.want("the zero Coder")
	x.c.Tree(model.New(5), 32)
	for i := range 100 {
		x.bit(20*i, i%3)
		x.half(i % 2)
		x.want("the zero Coder after bits", i)
	}
	x = pair{t, new(coder.Coder), newPage()}
	x.half(1)
	x.want("the zero Coder after Half")
	x = pair{t, new(coder.Coder), newPage()}
	x.c.Tree(model.New(5), 21)
	x.g.tree(newOdds(5), 5, 21)
	x.want("the zero Coder after Tree")
}
