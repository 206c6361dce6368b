package decoder_test

import (
	"math"
	"math/big"
	"math/rand/v2"
	"slices"
	"testing"

	"bootjack/coder"
	"bootjack/decoder"
	"bootjack/model"
)

// far is probabilities that are far away, or near when their highest bits are lost.
var far = []int{
	math.MinInt, math.MinInt + 1024, -1 << 32, -1<<32 + 1024, -65536, -64512, -2048, -1024,
	66560, 1 << 32, 1<<32 + 1024, 1<<62 + 1, math.MaxInt - 1023, math.MaxInt,
}

// odds is the probabilities at the limits, some of them outside.
var odds = []int{-1, 0, 30, 31, 32, 1023, 1024, 1025, 2016, 2017, 2018, 2048}

// held is p in the range of chapter 15.
func held(p int) int {
	return min(max(p, 31), 2017)
}

// adapted is what chapter 15 says of p and a bit.
func adapted(p, bit int) int {
	p = held(p)
	if bit == 0 {
		return p + (2048-p)/32
	}
	return p - p/32
}

// page is a decoder as the chapter words it.
type page struct {
	code, width *big.Int
	needs       int
}

func newPage() *page {
	return &page{code: new(big.Int), width: big.NewInt(1<<32 - 1), needs: 4}
}

func (g *page) byte(b byte) bool {
	if g.needs == 0 {
		return false
	}
	g.code.Mul(g.code, big.NewInt(256))
	g.code.Add(g.code, big.NewInt(int64(b)))
	g.needs--
	return true
}

func (g *page) lost() bool {
	return g.needs == 0 && g.code.Cmp(g.width) >= 0
}

func (g *page) clean() bool {
	return g.needs == 0 && g.code.Sign() == 0
}

func (g *page) bit(p int) (bit, next int) {
	if g.needs > 0 || g.lost() {
		return 0, held(p)
	}
	bound := g.bound(p)
	if g.code.Cmp(bound) < 0 {
		g.width = bound
	} else {
		bit = 1
		g.code.Sub(g.code, bound)
		g.width.Sub(g.width, bound)
	}
	g.renormalize()
	return bit, adapted(p, bit)
}

func (g *page) half() int {
	if g.needs > 0 || g.lost() {
		return 0
	}
	bit := 0
	g.width.Rsh(g.width, 1)
	if g.code.Cmp(g.width) >= 0 {
		bit = 1
		g.code.Sub(g.code, g.width)
	}
	g.renormalize()
	return bit
}

func (g *page) renormalize() {
	if g.width.Cmp(big.NewInt(1<<24)) < 0 {
		g.width.Lsh(g.width, 8)
		g.needs++
	}
}

// bound is what Bit says that bound is.
func (g *page) bound(p int) *big.Int {
	bound := new(big.Int).Rsh(g.width, 11)
	return bound.Mul(bound, big.NewInt(int64(held(p))))
}

// pair is a decoder and the page that is given the same.
type pair struct {
	t *testing.T
	d *decoder.Decoder
	g *page
}

// newPair makes a pair that is given b.
func newPair(t *testing.T, b ...byte) pair {
	t.Helper()
	x := pair{t, decoder.New(), newPage()}
	x.want("a new decoder")
	x.feed(b...)
	return x
}

// coded makes a pair whose code is code.
func coded(t *testing.T, code uint32) pair {
	t.Helper()
	return newPair(t, four(code)...)
}

// four is the four bytes of a code.
func four(code uint32) []byte {
	return []byte{byte(code >> 24), byte(code >> 16), byte(code >> 8), byte(code)}
}

func (x pair) feed(l ...byte) {
	x.t.Helper()
	for _, b := range l {
		got, want := x.d.Byte(b), x.g.byte(b)
		if got != want {
			x.t.Fatalf("P1701: Byte(%d): %v, want %v", b, got, want)
		}
		x.want("after Byte", int(b))
	}
}

func (x pair) bit(p int) (bit, next int) {
	x.t.Helper()
	bit, next = x.d.Bit(p)
	wantBit, wantNext := x.g.bit(p)
	if bit != wantBit || next != wantNext {
		x.t.Fatalf("P1701: Bit(%d): %d, %d, want %d, %d", p, bit, next, wantBit, wantNext)
	}
	x.want("after Bit", p)
	return bit, next
}

func (x pair) half() int {
	x.t.Helper()
	got, want := x.d.Half(), x.g.half()
	if got != want {
		x.t.Fatalf("P1701: Half: %d, want %d", got, want)
	}
	x.want("after Half")
	return got
}

// want fails the test unless the decoder tells what the page does.
func (x pair) want(what string, of ...int) {
	x.t.Helper()
	if got, want := x.d.Need(), x.g.needs > 0; got != want {
		x.t.Fatalf("P1701: %s %v: Need is %v", what, of, got)
	}
	if got, want := x.d.Lost(), x.g.lost(); got != want {
		x.t.Fatalf("P1701: %s %v: Lost is %v", what, of, got)
	}
	if got, want := x.d.Clean(), x.g.clean(); got != want {
		x.t.Fatalf("P1701: %s %v: Clean is %v", what, of, got)
	}
}

// more decodes bits that show the code and the range to their last digits.
func (x pair) more(source *rand.Rand) {
	x.t.Helper()
	for i := range 60 {
		if x.g.needs > 0 {
			x.feed(byte(source.Uint32()))
		}
		if i%3 == 0 {
			x.half()
		} else {
			x.bit(31 + source.IntN(1987))
		}
	}
}

// width fails the test unless the page's range is want: then the test is wrong.
func (x pair) width(want int64) {
	x.t.Helper()
	if !x.g.width.IsInt64() || x.g.width.Int64() != want {
		x.t.Fatalf("the range is %v, not %d", x.g.width, want)
	}
}

// lost reports whether the decoder is lost, which is shown by every call.
func (x pair) lost() bool {
	x.t.Helper()
	d := x.d
	if d.Need() || !d.Lost() || d.Clean() || d.Byte(0) || d.Half() != 0 {
		return false
	}
	for _, p := range slices.Concat(odds, far) {
		if bit, next := d.Bit(p); bit != 0 || next != held(p) {
			return false
		}
	}
	return d.Lost() && !d.Need()
}

func TestP1701Example(t *testing.T) {
	d := decoder.New()
	for i := range 4 {
		if !d.Need() || !d.Byte(0) {
			t.Fatalf("P1701: byte %d of a new decoder", i)
		}
	}
	if bit, next := d.Bit(1024); bit != 0 || next != 1056 {
		t.Errorf("P1701: Bit(1024) after 0 0 0 0: %d, %d", bit, next)
	}
}

// These are worked out from the chapter, by hand.
func TestP1701Known(t *testing.T) {
	type step struct{ p, bit, next int } // next 0: a Half
	for _, x := range []struct {
		bytes []byte
		steps []step
	}{
		{[]byte{127, 255, 255, 254}, []step{{0, 0, 0}}},
		{[]byte{127, 255, 255, 255}, []step{{0, 1, 0}}},
		{[]byte{191, 255, 255, 254}, []step{{0, 1, 0}, {0, 1, 0}}},
		{[]byte{191, 255, 255, 253}, []step{{0, 1, 0}, {0, 0, 0}}},
		{[]byte{127, 255, 251, 255}, []step{{1024, 0, 1056}}},
		{[]byte{127, 255, 252, 0}, []step{{1024, 1, 992}}},
		{[]byte{3, 223, 255, 224}, []step{{31, 0, 94}}},
		{[]byte{3, 223, 255, 225}, []step{{31, 1, 31}}},
		{[]byte{252, 31, 248, 30}, []step{{2017, 0, 2017}}},
		{[]byte{252, 31, 248, 31}, []step{{2017, 1, 1954}}},
		{[]byte{0, 15, 3, 224, 255}, []step{{31, 0, 94}, {31, 0, 94}}},
		{[]byte{0, 15, 3, 225}, []step{{31, 0, 94}, {31, 1, 31}}},
		{[]byte{0, 7, 129, 240, 127}, []step{{31, 0, 94}, {31, 0, 94}, {0, 0, 0}}},
		{[]byte{0, 7, 129, 240, 128}, []step{{31, 0, 94}, {31, 0, 94}, {0, 1, 0}}},
	} {
		d, at := decoder.New(), 0
		for i, s := range x.steps {
			for ; d.Need() && at < len(x.bytes); at++ {
				d.Byte(x.bytes[at])
			}
			bit, next := 0, 0
			if s.next == 0 {
				bit = d.Half()
			} else {
				bit, next = d.Bit(s.p)
			}
			if bit != s.bit || next != s.next {
				t.Errorf("P1701: %v: step %d: %d, %d, want %d, %d", x.bytes, i, bit, next, s.bit, s.next)
			}
		}
	}
}

// A new decoder needs four bytes, whatever they are.
func TestP1701First(t *testing.T) {
	for i := range 4 {
		for b := range 256 {
			l := []byte{10, 20, 30, 40}
			l[i] = byte(b)
			x := newPair(t, l...)
			x.feed(1, 0, 255)
			x.bit(31 + 7*b)
			x.half()
			x.half()
		}
	}
}

// Byte does nothing while no byte is needed, whatever the byte is.
func TestP1701ByteNotNeeded(t *testing.T) {
	source := rand.New(rand.NewPCG(17, 1))
	for _, code := range []uint32{0, 1, 255, 1 << 24, 0x12345678, 1 << 31, math.MaxUint32 - 1} {
		x := coded(t, code)
		for range 100 {
			if x.g.needs > 0 {
				x.feed(byte(source.Uint32()))
			}
			for range 5 {
				if x.d.Byte(byte(source.Uint32())) {
					t.Fatalf("P1701: Byte takes a byte that is not needed")
				}
			}
			x.want("after bytes that are not needed")
			x.bit(source.IntN(2048))
		}
	}
	for b := range 256 {
		x := coded(t, 0x80000000)
		if x.d.Byte(byte(b)) {
			t.Fatalf("P1701: Byte(%d) takes a byte that is not needed", b)
		}
		x.more(source)
	}
}

// While one of the first bytes is needed, bits are not decoded, and no call of
// Bit or Half leaves a trace.
func TestP1701NeedFirst(t *testing.T) {
	source := rand.New(rand.NewPCG(17, 2))
	for _, l := range [][]byte{{0, 0, 0, 0}, {255, 255, 255, 254}, {128, 0, 0, 1}, {3, 223, 255, 224}, {3, 223, 255, 225}, {255, 255, 255, 255}} {
		for _, p := range slices.Concat(odds, far) {
			x := newPair(t)
			for _, b := range l {
				x.wantNothing(p)
				x.feed(b)
			}
			x.more(source)
		}
	}
}

// wantNothing fails the test unless neither Bit nor Half decodes a bit.
func (x pair) wantNothing(p int) {
	x.t.Helper()
	for range 3 {
		if bit, next := x.d.Bit(p); bit != 0 || next != held(p) {
			x.t.Fatalf("P1701: Bit(%d) while a byte is needed: %d, %d", p, bit, next)
		}
		if bit := x.d.Half(); bit != 0 {
			x.t.Fatalf("P1701: Half while a byte is needed: %d", bit)
		}
		x.want("after bits that are not decoded")
	}
}

// The same while a byte is needed between bits.
func TestP1701NeedBetween(t *testing.T) {
	source := rand.New(rand.NewPCG(17, 3))
	for range 100 {
		x := coded(t, source.Uint32())
		for needs := 0; needs < 30; {
			if x.g.lost() {
				break
			}
			if x.g.needs > 0 {
				needs++
				x.wantNothing(source.IntN(3000) - 500)
				x.feed(byte(source.Uint32()))
			}
			if source.IntN(4) == 0 {
				x.half()
			} else {
				x.bit(31 + source.IntN(1987))
			}
		}
	}
}

// Every probability is held, and decides of the range: codes on both sides of
// the bound show it, and so do the bits that come next.
func TestP1701BitEach(t *testing.T) {
	source := rand.New(rand.NewPCG(17, 4))
	each := slices.Clone(far)
	for p := -100; p <= 2200; p++ {
		each = append(each, p)
	}
	for _, p := range each {
		bound := uint32(math.MaxUint32) >> 11 * uint32(held(p))
		for _, code := range []uint32{0, 1, bound - 1, bound, bound + 1, math.MaxUint32 - 1} {
			x := coded(t, code)
			bit, next := x.bit(p)
			want := 0
			if code >= bound {
				want = 1
			}
			if bit != want || next != adapted(p, want) {
				t.Fatalf("P1701: Bit(%d) of %d: %d, %d", p, code, bit, next)
			}
			x.more(source)
		}
	}
}

// The bound again, for other ranges: the code is led there by what it was at first.
func TestP1701BitAtBound(t *testing.T) {
	source := rand.New(rand.NewPCG(17, 5))
	for range 3000 {
		var play []int // probabilities; 0: a Half
		for range source.IntN(5) {
			play = append(play, []int{0, 31 + source.IntN(1987)}[source.IntN(2)])
		}
		x := coded(t, source.Uint32()&(1<<31-1))
		low := new(big.Int).Set(x.g.code)
		for _, p := range play {
			x.play(p)
		}
		if x.g.needs > 0 || x.g.lost() {
			continue
		}
		p := 31 + source.IntN(1987)
		low.Sub(low, x.g.code)
		at := uint32(low.Add(low, x.g.bound(p)).Uint64())
		for _, code := range []uint32{at - 1, at, at + 1} {
			y := coded(t, code)
			for _, q := range play {
				y.play(q)
			}
			want := 0
			if code >= at {
				want = 1
			}
			if bit, _ := y.bit(p); bit != want {
				t.Fatalf("P1701: Bit(%d) at the bound: %d, want %d", p, bit, want)
			}
			if y.g.code.BitLen() > 1 && code != at-1 {
				t.Fatalf("the code is not at the bound")
			}
			y.more(source)
		}
	}
}

// play decodes a bit by Bit with p, or by Half if p is 0.
func (x pair) play(p int) {
	x.t.Helper()
	if p == 0 {
		x.half()
	} else {
		x.bit(p)
	}
}

// The range is odd at first: its half is rounded down, and what is left above
// both halves is lost.
func TestP1701Half(t *testing.T) {
	for _, c := range []struct {
		code uint32
		bit  int
		lost bool
	}{
		{0, 0, false},
		{1, 0, false},
		{1<<31 - 2, 0, false},
		{1<<31 - 1, 1, false},
		{1 << 31, 1, false},
		{math.MaxUint32 - 2, 1, false},
		{math.MaxUint32 - 1, 1, true},
	} {
		x := coded(t, c.code)
		if bit := x.half(); bit != c.bit {
			t.Errorf("P1701: Half of %d: %d, want %d", c.code, bit, c.bit)
		}
		if x.d.Lost() != c.lost || c.lost && !x.lost() {
			t.Errorf("P1701: after Half of %d: Lost is %v", c.code, x.d.Lost())
		}
		for range 40 {
			x.half()
			if x.g.needs > 0 {
				x.feed(170)
			}
		}
	}
}

// Half of an even range loses nothing.
func TestP1701HalfEven(t *testing.T) {
	bound := uint32(math.MaxUint32) >> 11 * 1000
	for _, c := range []struct {
		code uint32
		bit  int
	}{{0, 0}, {bound/2 - 1, 0}, {bound / 2, 1}, {bound - 1, 1}} {
		x := coded(t, c.code)
		x.bit(1000)
		x.width(int64(bound))
		if bit := x.half(); bit != c.bit || x.d.Lost() {
			t.Errorf("P1701: Half of %d in an even range: %d, Lost %v", c.code, bit, x.d.Lost())
		}
	}
}

// The first four bytes are lost only if all are 255.
func TestP1701LostFirst(t *testing.T) {
	if x := newPair(t, 255, 255, 255, 255); !x.lost() {
		t.Error("P1701: after 255 255 255 255 the decoder is not lost")
	}
	for i := range 4 {
		for b := range 255 {
			l := []byte{255, 255, 255, 255}
			l[i] = byte(b)
			if newPair(t, l...).d.Lost() {
				t.Errorf("P1701: after %v the decoder is lost", l)
			}
		}
	}
}

// What Half leaves above both halves is lost also when a byte is needed first,
// but only once the byte has come, whatever it is.
func TestP1701LostAfterByte(t *testing.T) {
	for b := range 256 {
		x := edge(t, 1<<25-2)
		if x.half() != 1 || !x.d.Need() || x.d.Lost() || x.d.Clean() {
			t.Fatal("P1701: after Half with a range of 2^25 - 1")
		}
		x.width((1<<24 - 1) << 8)
		x.wantNothing(1024)
		x.feed(byte(b))
		if !x.lost() {
			t.Fatalf("P1701: after Half with an odd range and the byte %d the decoder is not lost", b)
		}
		x.feed(0, 255)
		if !x.lost() {
			t.Fatal("P1701: a lost decoder is no longer lost")
		}
	}
}

// edge makes a pair whose range is 2^25 - 1 and whose code is code.
func edge(t *testing.T, code uint32) pair {
	t.Helper()
	x := coded(t, code)
	for range 7 {
		x.half()
	}
	x.width(1<<25 - 1)
	return x
}

// Below what is lost, the code takes every byte.
func TestP1701NotLostAfterByte(t *testing.T) {
	source := rand.New(rand.NewPCG(17, 6))
	for _, code := range []uint32{0, 1, 1<<24 - 2, 1<<24 - 1, 1 << 24, 1<<25 - 3} {
		for b := range 256 {
			x := edge(t, code)
			x.half()
			x.feed(byte(b))
			if x.d.Lost() {
				t.Fatalf("P1701: the code %d and the byte %d are lost", code, b)
			}
			x.more(source)
		}
	}
}

// A lost decoder stays lost, whatever it is asked.
func TestP1701LostStays(t *testing.T) {
	source := rand.New(rand.NewPCG(17, 7))
	for _, l := range [][]byte{{255, 255, 255, 255}, {255, 255, 255, 254}} {
		x := newPair(t, l...)
		if l[3] == 254 {
			x.half()
		}
		for range 500 {
			x.feed(byte(source.Uint32()))
			x.bit(source.IntN(2400) - 200)
			x.half()
			if !x.lost() {
				t.Fatalf("P1701: %v is no longer lost", l)
			}
		}
	}
}

// A range of 2^24 is left as it is, and the one below it is multiplied.
func TestP1701RenormalizeAt(t *testing.T) {
	source := rand.New(rand.NewPCG(17, 8))
	for _, c := range []struct {
		what  string
		start func(t *testing.T, code uint32) pair
		code  uint32
		play  []int // probabilities; 0: a Half
		width int64
		need  bool
	}{
		{"Half 0 to 2^24 - 1", edge, 5, []int{0}, (1<<24 - 1) << 8, true},
		{"Half 1 to 2^24 - 1", edge, 1<<24 + 5, []int{0}, (1<<24 - 1) << 8, true},
		{"7 times Half", edge, 5, nil, 1<<25 - 1, false},
		{"Half 0 to 2^24", even, 5, []int{0}, 1 << 24, false},
		{"Half 1 to 2^24", even, 1<<24 + 5, []int{0}, 1 << 24, false},
		{"Half of 2^24", even, 5, []int{0, 0}, 1 << 31, true},
		{"Bit 0 to 2^24", even, 5, []int{1024}, 1 << 24, false},
		{"Bit 1 to 2^24", even, 1<<24 + 5, []int{1024}, 1 << 24, false},
		{"Bit 0 to less", even, 5, []int{1023}, 1 << 22 * 1023, true},
		{"Bit 1 to less", even, 1<<25 - 5, []int{1025}, 1 << 22 * 1023, true},
		{"Bit 0 to more", even, 5, []int{1025}, 1 << 14 * 1025, false},
		{"Bit 1 to more", even, 1<<25 - 5, []int{1023}, 1 << 14 * 1025, false},
		{"the least Bit 0 of 2^24", even, 5, []int{0, 31}, 1 << 21 * 31, true},
		{"the least Bit 1 of 2^24", even, 1<<24 - 5, []int{0, 2017}, 1 << 21 * 31, true},
	} {
		for b := range 256 {
			x := c.start(t, c.code)
			for _, p := range c.play {
				x.play(p)
			}
			x.width(c.width)
			if x.d.Need() != c.need {
				t.Fatalf("P1701: %s: Need is %v", c.what, x.d.Need())
			}
			x.feed(byte(b))
			x.more(source)
		}
	}
}

// even makes a pair whose range is 2^25 and whose code is code.
func even(t *testing.T, code uint32) pair {
	t.Helper()
	x := coded(t, 1<<31-1024+code)
	x.bit(1024)
	for range 5 {
		x.half()
	}
	x.width(1<<26 + 31)
	x.bit(1024)
	x.width(1 << 25)
	return x
}

// Only a code of 0 is clean, and only once all its bytes have come.
func TestP1701Clean(t *testing.T) {
	for i := range 32 {
		if coded(t, 1<<i).d.Clean() {
			t.Errorf("P1701: the code 2^%d is clean", i)
		}
	}
	x := newPair(t, 0, 0, 0)
	if x.d.Clean() {
		t.Error("P1701: three bytes 0 are clean")
	}
	x.feed(0)
	if !x.d.Clean() {
		t.Error("P1701: four bytes 0 are not clean")
	}
	for b := range 256 {
		x := newPair(t, 0, 0, 0, 0)
		x.bit(31)
		x.bit(31)
		if !x.d.Need() || x.d.Clean() {
			t.Fatal("P1701: a decoder that needs a byte is clean")
		}
		x.feed(byte(b))
		if x.d.Clean() != (b == 0) {
			t.Errorf("P1701: after bytes 0 and a byte %d: Clean is %v", b, x.d.Clean())
		}
	}
}

// A 1 whose bound is the code leaves a code of 0.
func TestP1701CleanByOne(t *testing.T) {
	for p := 31; p <= 2017; p++ {
		bound := uint32(math.MaxUint32) >> 11 * uint32(p)
		for _, d := range []uint32{0, 1, 2} {
			x := coded(t, bound-1+d)
			if x.bit(p); x.d.Clean() != (d == 1) {
				t.Fatalf("P1701: Bit(%d) of the bound and %d - 1: Clean is %v", p, d, x.d.Clean())
			}
		}
	}
	x := coded(t, 1<<31-1)
	if x.half(); !x.d.Clean() {
		t.Error("P1701: Half of 2^31 - 1 is not clean")
	}
}

// Need, Lost and Clean only tell.
func TestP1701AskedOften(t *testing.T) {
	source := rand.New(rand.NewPCG(17, 9))
	x, quiet := newPair(t), decoder.New()
	for range 2000 {
		for range 3 {
			x.want("asked again")
		}
		b, p := byte(source.Uint32()), 31+source.IntN(1987)
		x.feed(b)
		quiet.Byte(b)
		bit, next := x.bit(p)
		if quietBit, quietNext := quiet.Bit(p); quietBit != bit || quietNext != next {
			t.Fatal("P1701: a question changed the decoder")
		}
	}
}

// Likely bits and unlikely ones, in long rows of bytes.
func TestP1701Rows(t *testing.T) {
	for _, p := range []int{math.MinInt, 31, 32, 63, 64, 512, 1023, 1024, 1025, 1536, 2016, 2017, math.MaxInt} {
		for _, row := range [][]byte{{0}, {1}, {254}, {255, 0}, {0, 255}, {127}, {128}, {254, 255, 255, 255}} {
			x, halves := newPair(t), newPair(t)
			for i := range 2000 {
				x.feed(row[i%len(row)])
				x.bit(p)
				halves.feed(row[i%len(row)])
				halves.bit(p)
				halves.half()
			}
		}
	}
}

// Any bytes, any probabilities, and calls at any time.
func TestP1701Random(t *testing.T) {
	source := rand.New(rand.NewPCG(17, 10))
	for range 500 {
		x := newPair(t)
		for range source.IntN(1000) {
			switch source.IntN(8) {
			case 0, 1, 2:
				x.feed(byte(source.Uint32()))
			case 3:
				x.half()
			case 4:
				x.bit(far[source.IntN(len(far))])
			case 5:
				x.bit(source.IntN(2600) - 300)
			default:
				x.bit(31 + source.IntN(1987))
			}
		}
	}
}

func TestP1701Long(t *testing.T) {
	source := rand.New(rand.NewPCG(17, 11))
	x := newPair(t)
	for range 300000 {
		for x.g.needs > 0 {
			x.feed(byte(source.Uint32()))
		}
		x.bit(31 + source.IntN(1987))
	}
}

func TestP1701Independent(t *testing.T) {
	source := rand.New(rand.NewPCG(17, 12))
	pairs := []pair{newPair(t), newPair(t), newPair(t)}
	for range 5000 {
		x := pairs[source.IntN(len(pairs))]
		x.feed(byte(source.IntN(255)))
		x.bit(31 + source.IntN(1987))
		if source.IntN(50) == 0 {
			x.half()
		}
	}
	for _, x := range pairs {
		x.more(source)
	}
	newPair(t).more(source)
}

func TestP1701NilDecoder(t *testing.T) {
	var none *decoder.Decoder
	for b := range 256 {
		if none.Need() || none.Byte(byte(b)) || none.Lost() || none.Clean() {
			t.Errorf("P1701: a nil Decoder with the byte %d", b)
		}
		if bit := none.Half(); bit != 0 {
			t.Errorf("P1701: Half of a nil Decoder: %d", bit)
		}
	}
	for p := -100; p <= 2200; p++ {
		if bit, next := none.Bit(p); bit != 0 || next != held(p) {
			t.Errorf("P1701: Bit(%d) of a nil Decoder: %d, %d", p, bit, next)
		}
	}
	for _, p := range far {
		if bit, next := none.Bit(p); bit != 0 || next != held(p) {
			t.Errorf("P1701: Bit(%d) of a nil Decoder: %d, %d", p, bit, next)
		}
	}
}

// A Decoder that New did not make has the state that one has at first.
func TestP1701ZeroDecoder(t *testing.T) {
	source := rand.New(rand.NewPCG(17, 13))
	for range 50 {
		x := pair{t, new(decoder.Decoder), newPage()}
		x.want("the zero Decoder")
		x.wantNothing(700)
		for range 4 {
			x.feed(byte(source.Uint32()))
		}
		x.more(source)
	}
}

// step is a bit that is encoded: by Bit with p, or by Half if p is 0.
type step struct{ p, bit int }

// encoded is what a coder makes of the steps.
func encoded(l []step) []byte {
	c := coder.New()
	for _, s := range l {
		if s.p == 0 {
			c.Half(s.bit)
		} else {
			c.Bit(s.p, s.bit)
		}
	}
	return c.Done()
}

// decoded reports whether the bytes come out as the steps, the decoder is clean
// after the last one, and none of the bytes is left.
func decoded(t *testing.T, l []step, b []byte) bool {
	t.Helper()
	d, at := decoder.New(), 0
	for i := range len(l) + 1 {
		for ; d.Need(); at++ {
			if at == len(b) {
				return false
			}
			d.Byte(b[at])
		}
		if d.Lost() {
			return false
		}
		if i < len(l) && !l[i].comes(t, d) {
			return false
		}
	}
	return d.Clean() && at == len(b)
}

// comes reports whether the next bit of d is that of the step.
func (s step) comes(t *testing.T, d *decoder.Decoder) bool {
	t.Helper()
	if s.p == 0 {
		return d.Half() == s.bit&1
	}
	bit, next := d.Bit(s.p)
	if next != adapted(s.p, bit) {
		t.Fatalf("P1701: Bit(%d): %d, %d", s.p, bit, next)
	}
	return bit == s.bit
}

// randomSteps is n bits, of which a share are halves and a share are 1.
func randomSteps(source *rand.Rand, n int) []step {
	l := make([]step, n)
	halves, ones := source.IntN(101), source.IntN(101)
	for i := range l {
		if source.IntN(100) >= halves {
			l[i].p = 31 + source.IntN(1987)
		}
		if source.IntN(100) < ones {
			l[i].bit = 1
		}
	}
	return l
}

func TestP1702NoBits(t *testing.T) {
	if !decoded(t, nil, coder.New().Done()) {
		t.Error("P1702: no bits do not come back")
	}
}

// All sequences of few bits.
func TestP1702Short(t *testing.T) {
	for _, odds := range [][]int{{0}, {31}, {2017}, {1024}, {0, 31}, {31, 0}, {0, 2017}, {1024, 0, 31}, {0, 0, 100}, {31, 31, 2017}} {
		for n := range 11 {
			for bits := range 1 << n {
				l := make([]step, n)
				for i := range l {
					l[i] = step{odds[i%len(odds)], bits >> i & 1}
				}
				if !decoded(t, l, encoded(l)) {
					t.Fatalf("P1702: %v does not come back", l)
				}
			}
		}
	}
}

func TestP1702Random(t *testing.T) {
	source := rand.New(rand.NewPCG(17, 14))
	for range 2000 {
		l := randomSteps(source, source.IntN(500))
		if !decoded(t, l, encoded(l)) {
			t.Fatalf("P1702: %v does not come back", l)
		}
	}
}

// A coder carries through the bytes 255 in long rows of the same bit.
func TestP1702Rows(t *testing.T) {
	for _, p := range []int{0, 31, 32, 64, 1023, 1024, 1025, 2016, 2017} {
		for _, row := range [][]int{{0}, {1}, {0, 1}, {1, 0}, {1, 1, 0}, {0, 0, 1}} {
			var l, halves []step
			for i := range 3000 {
				s := step{p, row[i%len(row)]}
				l, halves = append(l, s), append(halves, s, step{0, 1 - s.bit})
			}
			if !decoded(t, l, encoded(l)) || !decoded(t, halves, encoded(halves)) {
				t.Fatalf("P1702: rows with the probability %d do not come back", p)
			}
		}
	}
}

func TestP1702Long(t *testing.T) {
	source := rand.New(rand.NewPCG(17, 15))
	l := randomSteps(source, 300000)
	if !decoded(t, l, encoded(l)) {
		t.Fatal("P1702: 300000 bits do not come back")
	}
}

// Bytes that end early or go on are not those of the bits, and nor are others
// of the same number.
func TestP1702OtherBytes(t *testing.T) {
	source := rand.New(rand.NewPCG(17, 16))
	for range 200 {
		l := randomSteps(source, source.IntN(60))
		b := encoded(l)
		for i := range b {
			other := slices.Clone(b)
			other[i] += byte(1 + source.IntN(255))
			if decoded(t, l, other) {
				t.Fatalf("P1702: %v comes from %v as well as from %v", l, other, b)
			}
		}
		if decoded(t, l, b[:len(b)-1]) || decoded(t, l, append(b, 0)) {
			t.Fatalf("P1702: %v comes from a byte more or less than %v", l, b)
		}
	}
}

// Probabilities outside the range, and ones that adapt from bit to bit.
func TestP1702Adapts(t *testing.T) {
	source := rand.New(rand.NewPCG(17, 17))
	for _, first := range slices.Concat(odds, far) {
		for _, ones := range []int{0, 1, 10, 50, 90, 99, 100} {
			c, p := coder.New(), first
			var bits []int
			for range 1000 {
				bit := 0
				if source.IntN(100) < ones {
					bit = 1
				}
				bits = append(bits, bit)
				p = c.Bit(p, bit)
			}
			d, q, b := decoder.New(), first, c.Done()
			for i, want := range bits {
				b = fill(d, b)
				bit := 0
				if bit, q = d.Bit(q); bit != want {
					t.Fatalf("P1702: adapting from %d: bit %d: %d", first, i, bit)
				}
			}
			if b = fill(d, b); p != q || len(b) > 0 || !d.Clean() {
				t.Fatalf("P1702: adapting from %d: %d and %d, %d bytes left", first, p, q, len(b))
			}
		}
	}
}

// fill gives d the bytes that it needs, and returns those that are left.
func fill(d *decoder.Decoder, b []byte) []byte {
	for len(b) > 0 && d.Byte(b[0]) {
		b = b[1:]
	}
	return b
}

// Numbers that were encoded by Tree come back bit by bit, as the layers above
// decode them.
func TestP1702Tree(t *testing.T) {
	source := rand.New(rand.NewPCG(17, 18))
	for size := 1; size <= 8; size++ {
		c, to := coder.New(), model.New(size)
		var numbers []int
		for range 500 {
			v := source.IntN(1 << size)
			numbers = append(numbers, v)
			c.Tree(to, v)
		}
		d, from, b := decoder.New(), model.New(size), c.Done()
		for i, want := range numbers {
			node := 1
			for range size {
				b = fill(d, b)
				bit, next := d.Bit(from.At(node))
				from.Turn(node, bit)
				if from.At(node) != next {
					t.Fatalf("P1702: node %d becomes %d, and %d by Bit", node, from.At(node), next)
				}
				node = 2*node + bit
			}
			if got := node - 1<<size; got != want {
				t.Fatalf("P1702: number %d of %d bits: %d, want %d", i, size, got, want)
			}
		}
		if b = fill(d, b); len(b) > 0 || !d.Clean() {
			t.Fatalf("P1702: numbers of %d bits: %d bytes left", size, len(b))
		}
	}
}
