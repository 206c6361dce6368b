package fe_test

import (
	"encoding/hex"
	"math"
	"math/big"
	"math/rand/v2"
	"slices"
	"testing"

	"bootjack/fe"
)

// power is 2^n.
func power(n uint) *big.Int { return new(big.Int).Lsh(big.NewInt(1), n) }

// prime is 2^255 - 19.
func prime() *big.Int { return new(big.Int).Sub(power(255), big.NewInt(19)) }

// encoded is n, which is at least 0 and less than 2^256, in little-endian order.
func encoded(n *big.Int) [32]byte {
	var b [32]byte
	n.FillBytes(b[:])
	slices.Reverse(b[:])
	return b
}

// decoded is the little-endian number b.
func decoded(b [32]byte) *big.Int {
	slices.Reverse(b[:])
	return new(big.Int).SetBytes(b[:])
}

// number is b as the document reads it: without its highest bit, modulo p.
func number(b [32]byte) *big.Int {
	b[31] &= 127
	return new(big.Int).Mod(decoded(b), prime())
}

// notable are encodings near 0, near p and near 2^255, of numbers with a single
// bit, and of numbers whose limbs are as great or as small as can be.
func notable() [][32]byte {
	var all [][32]byte
	add := func(n *big.Int) {
		if n.Sign() >= 0 && n.BitLen() <= 256 {
			all = append(all, encoded(n))
		}
	}
	for d := int64(-40); d <= 40; d++ {
		for _, n := range []*big.Int{new(big.Int), prime(), power(255), power(256), new(big.Int).Rsh(prime(), 1)} {
			add(n.Add(n, big.NewInt(d)))
		}
	}
	for i := range uint(256) {
		add(power(i))
		add(new(big.Int).Sub(power(i), big.NewInt(1)))
		add(new(big.Int).Sub(prime(), power(i)))
	}
	for set := range 32 {
		n, m := new(big.Int), new(big.Int)
		for i := range uint(5) {
			if set>>i&1 == 1 {
				n.Add(n, new(big.Int).Sub(power(51*i+51), power(51*i)))
				m.Add(m, power(51*i+50))
			}
		}
		add(n)
		add(m)
	}
	return all
}

// sampler makes encodings, of which some are notable.
type sampler struct {
	*rand.Rand
	notable [][32]byte
}

func newSampler(seed uint64) sampler {
	return sampler{rand.New(rand.NewPCG(9, seed)), notable()}
}

func (s sampler) bytes() [32]byte {
	if s.IntN(3) == 0 {
		return s.notable[s.IntN(len(s.notable))]
	}
	var b [32]byte
	for i := range b {
		b[i] = byte(s.Uint32())
	}
	return b
}

// samples are the notable encodings and as many others as are asked for.
func samples(seed uint64, made int) [][32]byte {
	s := newSampler(seed)
	all := slices.Clone(s.notable)
	for range made {
		all = append(all, s.bytes())
	}
	return all
}

// check holds everything that can be asked of x against the number n.
func check(t *testing.T, x fe.Fe, n *big.Int, told ...any) {
	t.Helper()
	if got, want := x.Bytes(), encoded(n); got != want {
		t.Fatalf("P901: %v: Bytes %x, want %x", told, got, want)
	}
	if got, want := x.IsZero(), n.Sign() == 0; got != want {
		t.Fatalf("P901: %v: IsZero %v, want %v", told, got, want)
	}
	if got, want := x.Odd(), n.Bit(0) == 1; got != want {
		t.Fatalf("P901: %v: Odd %v, want %v", told, got, want)
	}
	again := fe.From(encoded(n))
	if !fe.Equal(x, again) || !fe.Equal(again, x) || !fe.Equal(x, x) {
		t.Fatalf("P901: %v: Equal of a number and itself is false", told)
	}
	another := new(big.Int).Add(n, big.NewInt(1))
	if other := fe.From(encoded(another)); fe.Equal(x, other) || fe.Equal(other, x) {
		t.Fatalf("P901: %v: Equal of a number and the next one is true", told)
	}
}

func TestP901Examples(t *testing.T) {
	var b [32]byte
	for i := range b {
		b[i] = 255
	}
	if got := fe.From(b).Bytes(); got != [32]byte{18} {
		t.Errorf("P901: From of bytes 255: %x", got)
	}
	if got := fe.Neg(fe.Small(1)).Bytes(); got[0] != 236 {
		t.Errorf("P901: Bytes of -1 begins with %d", got[0])
	}
}

// text is the encoding that s tells in hexadecimal.
func text(t *testing.T, s string) [32]byte {
	b, err := hex.DecodeString(s)
	if err != nil || len(b) != 32 {
		t.Fatal(s, err)
	}
	return [32]byte(b)
}

// TestP901Known needs no model: these numbers of edwards25519 are well known.
func TestP901Known(t *testing.T) {
	// The square of this one is -1.
	root := fe.From(text(t, "b0a00e4a271beec478e42fad0618432fa7d7fb3d99004d2b0bdfc14f8024832b"))
	minus := fe.From(text(t, "ecffffffffffffffffffffffffffffffffffffffffffffffffffffffffffff7f"))
	if !fe.Equal(fe.Square(root), minus) || !fe.Equal(fe.Mul(root, root), minus) {
		t.Error("P901: the square of the root of -1")
	}
	// d is -121665/121666.
	d := fe.From(text(t, "a3785913ca4deb75abd841414d0a700098e879777940c78c73fe6f2bee6c0352"))
	if !fe.Equal(fe.Mul(d, fe.Small(121666)), fe.Neg(fe.Small(121665))) {
		t.Error("P901: the curve's d")
	}
	// y of the base point is 4/5.
	y := fe.From(text(t, "5866666666666666666666666666666666666666666666666666666666666666"))
	if !fe.Equal(fe.Mul(y, fe.Small(5)), fe.Small(4)) {
		t.Error("P901: the base point's y")
	}
}

func TestP901From(t *testing.T) {
	for _, b := range samples(1, 3000) {
		for _, high := range []byte{0, 128} {
			b[31] = b[31]&127 | high
			check(t, fe.From(b), number(b), "From", b)
		}
	}
}

func TestP901Small(t *testing.T) {
	numbers := []uint64{0, 18, 19, 237, 121666, math.MaxUint64, math.MaxInt64, 0x0123456789abcdef}
	for i := range 64 {
		numbers = append(numbers, 1<<i, 1<<i-1, ^uint64(1<<i))
	}
	for _, n := range numbers {
		check(t, fe.Small(n), new(big.Int).SetUint64(n), "Small", n)
	}
}

func TestP901Canonical(t *testing.T) {
	seen := map[bool]int{}
	for _, b := range samples(2, 3000) {
		for _, high := range []byte{0, 128} {
			low := b
			low[31] &= 127
			b[31] = low[31] | high
			want := decoded(low).Cmp(prime()) < 0
			if got := fe.Canonical(b); got != want {
				t.Fatalf("P901: Canonical of %x: %v", b, got)
			}
			seen[want]++
		}
	}
	if seen[true] < 1000 || seen[false] < 38 {
		t.Fatal("too few", seen)
	}
}

func TestP901CanonicalAtP(t *testing.T) {
	// All nineteen numbers from p up to 2^255 are none, and p - 1 is one.
	for d := range int64(19) {
		b := encoded(new(big.Int).Add(prime(), big.NewInt(d)))
		if fe.Canonical(b) {
			t.Errorf("P901: p + %d is canonical", d)
		}
		// Any other byte that falls makes the number small enough.
		for i := 1; i < len(b); i++ {
			less := b
			less[i]--
			if !fe.Canonical(less) {
				t.Errorf("P901: %x is not canonical", less)
			}
		}
	}
	if !fe.Canonical(encoded(new(big.Int).Sub(prime(), big.NewInt(1)))) {
		t.Error("P901: p - 1 is not canonical")
	}
}

func TestP901Zero(t *testing.T) {
	var zero fe.Fe
	check(t, zero, new(big.Int), "zero")
	for _, b := range samples(3, 200) {
		x, n := fe.From(b), number(b)
		check(t, fe.Add(x, zero), n, "x + 0", b)
		check(t, fe.Add(zero, x), n, "0 + x", b)
		check(t, fe.Sub(x, zero), n, "x - 0", b)
		check(t, fe.Sub(zero, x), mod(new(big.Int).Neg(n)), "0 - x", b)
		check(t, fe.Mul(x, zero), new(big.Int), "x * 0", b)
		check(t, fe.Mul(zero, x), new(big.Int), "0 * x", b)
	}
	check(t, fe.Square(zero), new(big.Int), "0 * 0")
	check(t, fe.Neg(zero), new(big.Int), "-0")
}

// mod is n modulo p, in n.
func mod(n *big.Int) *big.Int { return n.Mod(n, prime()) }

// pair holds the operations on a and b against the model.
func pair(t *testing.T, a, b [32]byte) {
	t.Helper()
	x, y, m, n := fe.From(a), fe.From(b), number(a), number(b)
	check(t, fe.Add(x, y), mod(new(big.Int).Add(m, n)), "Add", a, b)
	check(t, fe.Sub(x, y), mod(new(big.Int).Sub(m, n)), "Sub", a, b)
	check(t, fe.Mul(x, y), mod(new(big.Int).Mul(m, n)), "Mul", a, b)
	if got, want := fe.Equal(x, y), m.Cmp(n) == 0; got != want {
		t.Fatalf("P901: Equal of %x and %x: %v", a, b, got)
	}
}

func TestP901One(t *testing.T) {
	for _, b := range samples(4, 3000) {
		x, n := fe.From(b), number(b)
		check(t, fe.Neg(x), mod(new(big.Int).Neg(n)), "Neg", b)
		check(t, fe.Square(x), mod(new(big.Int).Mul(n, n)), "Square", b)
		check(t, x, n, "unchanged", b)
	}
}

func TestP901Two(t *testing.T) {
	all := notable()
	for i, a := range all {
		// Not all pairs, which would take long, but each with each distance.
		for j := i % 37; j < len(all); j += 37 {
			pair(t, a, all[j])
		}
		pair(t, a, a)
	}
	s := newSampler(5)
	for range 5000 {
		pair(t, s.bytes(), s.bytes())
	}
}

// TestP901Limbs multiplies numbers that have one bit each, so that each product
// of limbs is seen alone, and what it carries.
func TestP901Limbs(t *testing.T) {
	for i := range uint(255) {
		for j := range uint(255) {
			if i%51 > 1 && i%51 < 49 && j%51 > 1 && j%51 < 49 && (i+j)%7 != 0 {
				continue
			}
			a, b := encoded(power(i)), encoded(power(j))
			want := encoded(mod(power(i + j)))
			if got := fe.Mul(fe.From(a), fe.From(b)).Bytes(); got != want {
				t.Fatalf("P901: 2^%d * 2^%d: %x", i, j, got)
			}
			sum := new(big.Int).Add(power(i), power(j))
			want = encoded(mod(new(big.Int).Mul(sum, sum)))
			if got := fe.Square(fe.Add(fe.From(a), fe.From(b))).Bytes(); got != want {
				t.Fatalf("P901: the square of 2^%d + 2^%d: %x", i, j, got)
			}
		}
	}
}

// TestP901Representations asks about numbers that were reached in another way
// than by From of their own bytes.
func TestP901Representations(t *testing.T) {
	for d := range int64(19) {
		// p + d stands for d, though it is odd where d is even.
		x := fe.From(encoded(new(big.Int).Add(prime(), big.NewInt(d))))
		check(t, x, big.NewInt(d), "p +", d)
		check(t, fe.Sub(x, fe.Small(uint64(d))), new(big.Int), "p + d - d", d)
		check(t, fe.Add(x, fe.Neg(x)), new(big.Int), "p + d and its negative", d)
	}
	s := newSampler(6)
	for range 1000 {
		a, b := s.bytes(), s.bytes()
		x, y, n := fe.From(a), fe.From(b), number(a)
		check(t, fe.Sub(fe.Add(x, y), y), n, "x + y - y", a, b)
		check(t, fe.Add(fe.Sub(x, y), y), n, "x - y + y", a, b)
		check(t, fe.Neg(fe.Neg(x)), n, "the negative's negative", a)
		check(t, fe.Sub(x, x), new(big.Int), "x - x", a)
		check(t, fe.Add(fe.Neg(x), x), new(big.Int), "-x + x", a)
		if !fe.Equal(fe.Mul(x, y), fe.Mul(y, x)) || !fe.Equal(fe.Mul(x, x), fe.Square(x)) {
			t.Fatalf("P901: products of %x and %x differ", a, b)
		}
	}
}

// TestP901Equal changes one bit of a number.
func TestP901Equal(t *testing.T) {
	s := newSampler(7)
	for range 60 {
		a := s.bytes()
		for i := range 256 {
			b := a
			b[i/8] ^= 1 << (i % 8)
			want := number(a).Cmp(number(b)) == 0
			if got := fe.Equal(fe.From(a), fe.From(b)); got != want {
				t.Fatalf("P901: Equal of %x and %x: %v", a, b, got)
			}
		}
	}
}

// TestP901Long does many operations one after another on numbers that are not
// written out between, so that their limbs grow as much as they can.
func TestP901Long(t *testing.T) {
	s := newSampler(8)
	for range 300 {
		var xs [4]fe.Fe
		var ns [4]*big.Int
		for i := range xs {
			b := s.bytes()
			xs[i], ns[i] = fe.From(b), number(b)
		}
		for range 60 {
			i, j, k := s.IntN(4), s.IntN(4), s.IntN(4)
			n := new(big.Int)
			switch s.IntN(5) {
			case 0:
				xs[k], n = fe.Add(xs[i], xs[j]), n.Add(ns[i], ns[j])
			case 1:
				xs[k], n = fe.Sub(xs[i], xs[j]), n.Sub(ns[i], ns[j])
			case 2:
				xs[k], n = fe.Neg(xs[i]), n.Neg(ns[i])
			case 3:
				xs[k], n = fe.Mul(xs[i], xs[j]), n.Mul(ns[i], ns[j])
			case 4:
				xs[k], n = fe.Square(xs[i]), n.Mul(ns[i], ns[i])
			}
			ns[k] = mod(n)
			check(t, xs[k], ns[k], "a long row")
		}
	}
}

// TestP901Steady does the same operation again and again.
func TestP901Steady(t *testing.T) {
	for _, b := range samples(9, 50) {
		x, n := fe.From(b), number(b)
		sum, difference, square, product := x, x, x, x
		s, d, q, p := n, n, n, n
		for range 8 {
			sum, s = fe.Add(sum, sum), mod(new(big.Int).Add(s, s))
			difference, d = fe.Sub(fe.Fe{}, fe.Sub(difference, x)), mod(new(big.Int).Sub(n, d))
			square, q = fe.Square(square), mod(new(big.Int).Mul(q, q))
			product, p = fe.Mul(x, product), mod(new(big.Int).Mul(n, p))
			check(t, sum, s, "doubled", b)
			check(t, difference, d, "subtracted", b)
			check(t, square, q, "squared", b)
			check(t, product, p, "multiplied", b)
		}
	}
}
