package powers_test

import (
	"encoding/hex"
	"math/big"
	"math/rand/v2"
	"slices"
	"testing"

	"bootjack/fe"
	"bootjack/powers"
)

// power is 2^n.
func power(n uint) *big.Int { return new(big.Int).Lsh(big.NewInt(1), n) }

// prime is 2^255 - 19.
func prime() *big.Int { return new(big.Int).Sub(power(255), big.NewInt(19)) }

// encoded is n, which is at least 0 and less than 2^256, in little-endian order.
func encoded(n *big.Int) [32]byte {
	var b [32]byte
	n.FillBytes(b[:])
	slices.Reverse(b[:])
	return b
}

// decoded is the little-endian number b.
func decoded(b [32]byte) *big.Int {
	slices.Reverse(b[:])
	return new(big.Int).SetBytes(b[:])
}

// text is the encoding that s tells in hexadecimal.
func text(t *testing.T, s string) [32]byte {
	t.Helper()
	b, err := hex.DecodeString(s)
	if err != nil || len(b) != 32 {
		t.Fatal(s, err)
	}
	return [32]byte(b)
}

// value is the number that x represents.
func value(x fe.Fe) *big.Int { return decoded(x.Bytes()) }

// mod is n modulo p, in n.
func mod(n *big.Int) *big.Int { return n.Mod(n, prime()) }

// notable are numbers of up to 256 bits: near 0, near p, near powers of 2, near
// the exponents that the chapter's roots and inverses are made of.
func notable() []*big.Int {
	p := prime()
	middles := []*big.Int{new(big.Int), p, power(256), new(big.Int).Add(p, p)}
	for _, shift := range []uint{1, 2, 3} {
		middles = append(middles, new(big.Int).Rsh(p, shift))
	}
	var all []*big.Int
	add := func(n *big.Int) {
		if n.Sign() >= 0 && n.BitLen() <= 256 {
			all = append(all, n)
		}
	}
	for _, m := range middles {
		for d := int64(-21); d <= 21; d++ {
			add(new(big.Int).Add(m, big.NewInt(d)))
		}
	}
	for i := range uint(256) {
		add(power(i))
		add(new(big.Int).Sub(power(i), big.NewInt(1)))
	}
	return all
}

// sampler makes numbers of up to 256 bits, of which some are notable.
type sampler struct {
	*rand.Rand
	notable []*big.Int
}

func newSampler(seed uint64) sampler {
	return sampler{rand.New(rand.NewPCG(10, seed)), notable()}
}

func (s sampler) number() *big.Int {
	if s.IntN(3) == 0 {
		return s.notable[s.IntN(len(s.notable))]
	}
	var b [32]byte
	for i := range b {
		b[i] = byte(s.Uint32())
	}
	return decoded(b)
}

// element is a number of the field in one of its representations: as From left
// it, or as sums, differences and products left it.
func (s sampler) element() fe.Fe {
	return s.another(fe.From(encoded(s.number())))
}

// another is x, perhaps in another representation.
func (s sampler) another(x fe.Fe) fe.Fe {
	y := fe.From(encoded(s.number()))
	switch s.IntN(4) {
	case 0:
		return fe.Sub(fe.Add(x, y), y)
	case 1:
		return fe.Neg(fe.Neg(x))
	case 2:
		return fe.Mul(x, fe.Small(1))
	}
	return x
}

// zeros are representations of 0: that of the zero Fe, that of the number p, and
// those that differences leave.
func zeros() []fe.Fe {
	all := []fe.Fe{{}, fe.Neg(fe.Fe{}), fe.From(encoded(prime()))}
	for _, n := range []*big.Int{big.NewInt(1), prime(), power(254), power(255)} {
		x := fe.From(encoded(n))
		all = append(all, fe.Sub(x, x), fe.Add(x, fe.Neg(x)))
	}
	return all
}

// elements are the notable numbers and as many others as are asked for.
func elements(seed uint64, made int) []fe.Fe {
	s := newSampler(seed)
	all := zeros()
	for _, n := range s.notable {
		all = append(all, fe.From(encoded(n)))
	}
	for range made {
		all = append(all, s.element())
	}
	return all
}

func TestP1001Example(t *testing.T) {
	if r, ok := powers.Sqrt(fe.Small(4)); !ok || r.Bytes() != [32]byte{2} {
		t.Errorf("P1001: Sqrt of 4: %x, %v", r.Bytes(), ok)
	}
}

// TestP1001Known needs no model: these numbers of edwards25519 are well known.
func TestP1001Known(t *testing.T) {
	one := fe.Small(1)
	root := fe.From(text(t, "b0a00e4a271beec478e42fad0618432fa7d7fb3d99004d2b0bdfc14f8024832b"))
	if r, ok := powers.Sqrt(fe.Neg(one)); !ok || !fe.Equal(r, root) {
		t.Errorf("P1001: Sqrt of -1: %x, %v", r.Bytes(), ok)
	}
	// d is -121665/121666, and x of the base point is the root of
	// (y^2 - 1) / (d*y^2 + 1), where y is 4/5.
	d := fe.Mul(fe.Neg(fe.Small(121665)), powers.Invert(fe.Small(121666)))
	if d.Bytes() != text(t, "a3785913ca4deb75abd841414d0a700098e879777940c78c73fe6f2bee6c0352") {
		t.Errorf("P1001: the curve's d: %x", d.Bytes())
	}
	y := fe.Mul(fe.Small(4), powers.Invert(fe.Small(5)))
	if y.Bytes() != text(t, "5866666666666666666666666666666666666666666666666666666666666666") {
		t.Errorf("P1001: the base point's y: %x", y.Bytes())
	}
	square := fe.Square(y)
	x, ok := powers.Ratio(fe.Sub(square, one), fe.Add(fe.Mul(d, square), one))
	if !ok || x.Bytes() != text(t, "1ad5258f602d56c9b2a7259560c72c695cdcd6fd31e2a4c0fe536ecdd3366921") {
		t.Errorf("P1001: the base point's x: %x, %v", x.Bytes(), ok)
	}
}

// checkPow holds Pow against the model.
func checkPow(t *testing.T, x fe.Fe, e *big.Int) {
	t.Helper()
	want := new(big.Int).Exp(value(x), e, prime())
	if got := powers.Pow(x, encoded(e)).Bytes(); got != encoded(want) {
		t.Fatalf("P1001: %x to the power %v: %x, want %x", x.Bytes(), e, got, encoded(want))
	}
}

func TestP1001Pow(t *testing.T) {
	s := newSampler(1)
	for _, e := range s.notable {
		for _, n := range []uint64{0, 1, 2, 3} {
			checkPow(t, fe.Small(n), e)
		}
		checkPow(t, s.element(), e)
	}
	for _, x := range elements(2, 500) {
		checkPow(t, x, s.number())
	}
}

func TestP1001PowSmall(t *testing.T) {
	s := newSampler(3)
	for range 20 {
		x := s.element()
		want := fe.Small(1)
		for e := range 300 {
			got := powers.Pow(x, [32]byte{byte(e), byte(e >> 8)})
			if !fe.Equal(got, want) {
				t.Fatalf("P1001: %x to the power %d: %x", x.Bytes(), e, got.Bytes())
			}
			want = fe.Mul(want, x)
		}
	}
}

// TestP1001PowBits asks for powers of 2 whose exponents have one bit, or lack
// one bit, so that no bit is left out or read as another one, the highest one
// neither.
func TestP1001PowBits(t *testing.T) {
	all := new(big.Int).Sub(power(256), big.NewInt(1))
	s := newSampler(4)
	for i := range uint(256) {
		checkPow(t, fe.Small(2), power(i))
		checkPow(t, fe.Small(2), new(big.Int).Xor(all, power(i)))
		checkPow(t, s.element(), power(i))
	}
	checkPow(t, s.element(), all)
}

// TestP1001PowEnds asks for the powers that are known of every number.
func TestP1001PowEnds(t *testing.T) {
	one, p := fe.Small(1), prime()
	before := encoded(new(big.Int).Sub(p, big.NewInt(1)))
	for _, x := range elements(5, 100) {
		if !fe.Equal(powers.Pow(x, [32]byte{}), one) {
			t.Fatalf("P1001: %x to the power 0 is not 1", x.Bytes())
		}
		if !fe.Equal(powers.Pow(x, [32]byte{1}), x) {
			t.Fatalf("P1001: %x to the power 1 is another number", x.Bytes())
		}
		if !fe.Equal(powers.Pow(x, encoded(p)), x) {
			t.Fatalf("P1001: %x to the power p is another number", x.Bytes())
		}
		if got := powers.Pow(x, before); !x.IsZero() && !fe.Equal(got, one) {
			t.Fatalf("P1001: %x to the power p - 1: %x", x.Bytes(), got.Bytes())
		}
	}
}

func TestP1001PowOfZero(t *testing.T) {
	s := newSampler(6)
	for _, zero := range zeros() {
		if got := powers.Pow(zero, [32]byte{}).Bytes(); got != [32]byte{1} {
			t.Fatalf("P1001: 0 to the power 0: %x", got)
		}
		for _, e := range s.notable {
			if got := powers.Pow(zero, encoded(e)); got.IsZero() != (e.Sign() > 0) {
				t.Fatalf("P1001: 0 to the power %v: %x", e, got.Bytes())
			}
		}
	}
}

func TestP1001Invert(t *testing.T) {
	for _, x := range elements(7, 1000) {
		want := new(big.Int)
		if !x.IsZero() {
			want.ModInverse(value(x), prime())
		}
		got := powers.Invert(x)
		if got.Bytes() != encoded(want) {
			t.Fatalf("P1001: the inverse of %x: %x, want %x", x.Bytes(), got.Bytes(), encoded(want))
		}
		if !fe.Equal(powers.Invert(got), x) {
			t.Fatalf("P1001: the inverse of the inverse of %x", x.Bytes())
		}
	}
}

func TestP1001InvertZero(t *testing.T) {
	for _, zero := range zeros() {
		if got := powers.Invert(zero); !got.IsZero() {
			t.Errorf("P1001: the inverse of 0: %x", got.Bytes())
		}
	}
}

// root is the even square root of n modulo p, or nil if there is none.
func root(n *big.Int) *big.Int {
	r := new(big.Int).ModSqrt(n, prime())
	if r != nil && r.Bit(0) == 1 {
		r.Sub(prime(), r)
	}
	return r
}

// checkRoot holds what Sqrt or Ratio answered, r and ok, against the model: it
// is to be the root of n.
func checkRoot(t *testing.T, r fe.Fe, ok bool, n *big.Int, told ...any) {
	t.Helper()
	want := root(n)
	if ok != (want != nil) {
		t.Fatalf("P1001: %v: %v, want %v", told, ok, want != nil)
	}
	if want == nil {
		want = new(big.Int)
	}
	if got := r.Bytes(); got != encoded(want) {
		t.Fatalf("P1001: %v: %x, %v, want %x", told, got, ok, encoded(want))
	}
}

func TestP1001Sqrt(t *testing.T) {
	for _, x := range elements(8, 1000) {
		r, ok := powers.Sqrt(x)
		checkRoot(t, r, ok, value(x), "Sqrt", x.Bytes())
	}
	for n := range uint64(300) {
		r, ok := powers.Sqrt(fe.Small(n))
		checkRoot(t, r, ok, new(big.Int).SetUint64(n), "Sqrt", n)
	}
}

// TestP1001SqrtKinds goes through the four kinds of numbers by their power
// (p - 1) / 4: fourth powers, other squares, and twice each of these, which is
// no square.
func TestP1001SqrtKinds(t *testing.T) {
	s := newSampler(9)
	for range 300 {
		x := s.element()
		if x.IsZero() {
			continue
		}
		square := fe.Square(x)
		for _, q := range []fe.Fe{square, fe.Neg(square), fe.Square(square), fe.Neg(fe.Square(square))} {
			r, ok := powers.Sqrt(q)
			if !ok || r.Odd() || !fe.Equal(fe.Square(r), q) {
				t.Fatalf("P1001: Sqrt of the square %x: %x, %v", q.Bytes(), r.Bytes(), ok)
			}
			if r, ok := powers.Sqrt(fe.Add(q, q)); ok || !r.IsZero() {
				t.Fatalf("P1001: Sqrt of twice the square %x: %x, %v", q.Bytes(), r.Bytes(), ok)
			}
		}
		r, _ := powers.Sqrt(square)
		if !fe.Equal(r, x) && !fe.Equal(r, fe.Neg(x)) || x.Odd() == fe.Equal(r, x) {
			t.Fatalf("P1001: Sqrt of the square of %x: %x", x.Bytes(), r.Bytes())
		}
	}
}

func TestP1001SqrtZero(t *testing.T) {
	for _, zero := range zeros() {
		if r, ok := powers.Sqrt(zero); !ok || !r.IsZero() {
			t.Errorf("P1001: Sqrt of 0: %x, %v", r.Bytes(), ok)
		}
	}
}

func TestP1001Ratio(t *testing.T) {
	s := newSampler(10)
	seen := map[bool]int{}
	for range 2000 {
		u, v := s.element(), s.element()
		if v.IsZero() {
			continue
		}
		n := new(big.Int).ModInverse(value(v), prime())
		n = mod(n.Mul(n, value(u)))
		r, ok := powers.Ratio(u, v)
		checkRoot(t, r, ok, n, "Ratio", u.Bytes(), v.Bytes())
		seen[ok]++
	}
	if seen[true] < 500 || seen[false] < 500 {
		t.Fatal("too few", seen)
	}
}

// TestP1001RatioSmall takes all ratios of small numbers and their negatives.
func TestP1001RatioSmall(t *testing.T) {
	const most = 15
	small := func(n int64) fe.Fe {
		if n < 0 {
			return fe.Neg(fe.Small(uint64(-n)))
		}
		return fe.Small(uint64(n))
	}
	for a := int64(-most); a <= most; a++ {
		for b := int64(-most); b <= most; b++ {
			r, ok := powers.Ratio(small(a), small(b))
			if b == 0 {
				if ok != (a == 0) || !r.IsZero() {
					t.Fatalf("P1001: Ratio of %d and 0: %x, %v", a, r.Bytes(), ok)
				}
				continue
			}
			n := new(big.Int).ModInverse(mod(big.NewInt(b)), prime())
			checkRoot(t, r, ok, mod(n.Mul(n, big.NewInt(a))), "Ratio", a, b)
		}
	}
}

// TestP1001RatioIsSqrt asks for roots of ratios whose value is known: where both
// parts are multiplied by the same number.
func TestP1001RatioIsSqrt(t *testing.T) {
	s := newSampler(11)
	for range 500 {
		x, y := s.element(), s.element()
		if y.IsZero() {
			continue
		}
		want, wantOK := powers.Sqrt(x)
		got, ok := powers.Ratio(fe.Mul(x, y), y)
		if ok != wantOK || !fe.Equal(got, want) {
			t.Fatalf("P1001: Ratio of %x times %x and the latter: %x, %v", x.Bytes(), y.Bytes(), got.Bytes(), ok)
		}
	}
}

func TestP1001RatioByZero(t *testing.T) {
	for _, v := range zeros() {
		for _, u := range elements(12, 100) {
			r, ok := powers.Ratio(u, v)
			if ok != u.IsZero() || !r.IsZero() {
				t.Fatalf("P1001: Ratio of %x and 0: %x, %v", u.Bytes(), r.Bytes(), ok)
			}
		}
	}
}

func TestP1001RatioOfZero(t *testing.T) {
	for _, u := range zeros() {
		for _, v := range elements(13, 100) {
			if r, ok := powers.Ratio(u, v); !ok || !r.IsZero() {
				t.Fatalf("P1001: Ratio of 0 and %x: %x, %v", v.Bytes(), r.Bytes(), ok)
			}
		}
	}
}
