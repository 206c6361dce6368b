package scalar_test

import (
	"crypto/ed25519"
	"crypto/sha512"
	"encoding/hex"
	"math"
	"math/big"
	"math/rand/v2"
	"slices"
	"testing"

	"bootjack/scalar"
)

// power is 2^n.
func power(n uint) *big.Int { return new(big.Int).Lsh(big.NewInt(1), n) }

// whole is the number that s tells in decimal.
func whole(s string) *big.Int {
	n, ok := new(big.Int).SetString(s, 10)
	if !ok {
		panic(s)
	}
	return n
}

// order is L.
func order() *big.Int {
	return new(big.Int).Add(power(252), whole("27742317777372353535851937790883648493"))
}

// encoded is n, which is at least 0 and less than 2^256, in little-endian order.
func encoded(n *big.Int) [32]byte {
	var b [32]byte
	n.FillBytes(b[:])
	slices.Reverse(b[:])
	return b
}

// encodedWide is n, which is at least 0 and less than 2^512, in little-endian
// order.
func encodedWide(n *big.Int) [64]byte {
	var b [64]byte
	n.FillBytes(b[:])
	slices.Reverse(b[:])
	return b
}

// decoded is the little-endian number b.
func decoded(b [32]byte) *big.Int {
	slices.Reverse(b[:])
	return new(big.Int).SetBytes(b[:])
}

// mod is the encoding of n modulo L.
func mod(n *big.Int) [32]byte {
	return encoded(new(big.Int).Mod(n, order()))
}

// text is the encoding that s tells in hexadecimal.
func text(t *testing.T, s string) [32]byte {
	t.Helper()
	b, err := hex.DecodeString(s)
	if err != nil || len(b) != 32 {
		t.Fatal(s, err)
	}
	return [32]byte(b)
}

// around are the numbers of up to size bits that differ from middle by at most
// distance.
func around(middle *big.Int, distance int64, size int) []*big.Int {
	var all []*big.Int
	for d := -distance; d <= distance; d++ {
		n := new(big.Int).Add(middle, big.NewInt(d))
		if n.Sign() >= 0 && n.BitLen() <= size {
			all = append(all, n)
		}
	}
	return all
}

// notable are numbers of up to size bits: near 0 and the greatest one, near
// powers of 2, near small multiples of L, near those multiples of L that are
// powers of 2 times it, and near multiples of 2^252 and of L - 2^252.
func notable(size int) []*big.Int {
	l := order()
	var all []*big.Int
	for i := range uint(size + 1) {
		all = append(all, around(power(i), 2, size)...)
		all = append(all, around(new(big.Int).Lsh(l, i), 2, size)...)
		rest := new(big.Int).Sub(l, power(252))
		all = append(all, around(rest.Lsh(rest, i), 2, size)...)
	}
	for i := range int64(17) {
		all = append(all, around(new(big.Int).Mul(l, big.NewInt(i)), 3, size)...)
		all = append(all, around(new(big.Int).Mul(power(252), big.NewInt(i)), 3, size)...)
	}
	greatest := new(big.Int).Div(power(uint(size)), l)
	return append(all, around(greatest.Mul(greatest, l), 3, size)...)
}

// sampler makes numbers of up to 256 and of up to 512 bits, of which some are
// notable.
type sampler struct {
	*rand.Rand
	narrow, wide []*big.Int
}

func newSampler(seed uint64) sampler {
	return sampler{rand.New(rand.NewPCG(11, seed)), notable(256), notable(512)}
}

// random is a number of up to size bits. Some have words of zeros or of ones.
func (s sampler) random(size int) *big.Int {
	b := make([]byte, size/8)
	for i := range b {
		b[i] = byte(s.Uint32())
	}
	for s.IntN(2) == 0 {
		word := 8 * s.IntN(len(b)/8)
		fill := byte(s.IntN(2) * 255)
		for i := range 8 {
			b[word+i] = fill
		}
	}
	return new(big.Int).SetBytes(b)
}

// number is a number of 256 bits.
func (s sampler) number() *big.Int {
	if s.IntN(3) == 0 {
		return s.narrow[s.IntN(len(s.narrow))]
	}
	return s.random(256)
}

// double is a number of 512 bits.
func (s sampler) double() *big.Int {
	switch s.IntN(4) {
	case 0:
		return s.wide[s.IntN(len(s.wide))]
	case 1: // a multiple of L, or close to one
		n := new(big.Int).Mul(order(), s.random(256))
		return n.Add(n, big.NewInt(s.Int64N(3)))
	}
	return s.random(512)
}

// likeOrder is a number that has the bits of L above some bit.
func (s sampler) likeOrder() *big.Int {
	bit := uint(s.IntN(256))
	lower := new(big.Int).Mod(s.random(256), power(bit+1))
	n := new(big.Int).Rsh(order(), bit+1)
	return n.Lsh(n, bit+1).Add(n, lower)
}

func TestP1101Order(t *testing.T) {
	want := text(t, "edd3f55c1a631258d69cf7a2def9de1400000000000000000000000000000010")
	if got := scalar.Order(); got != want || got != encoded(order()) {
		t.Errorf("P1101: Order is %x, want %x", got, want)
	}
}

func checkCanonical(t *testing.T, n *big.Int) {
	t.Helper()
	want := n.Cmp(order()) < 0
	if got := scalar.Canonical(encoded(n)); got != want {
		t.Fatalf("P1101: Canonical of %x is %v", n, got)
	}
}

func TestP1101Canonical(t *testing.T) {
	for _, n := range notable(256) {
		checkCanonical(t, n)
	}
	s := newSampler(1)
	for range 20000 {
		checkCanonical(t, s.number())
		checkCanonical(t, s.likeOrder())
	}
}

func checkReduce(t *testing.T, n *big.Int) {
	t.Helper()
	if got, want := scalar.Reduce(encodedWide(n)), mod(n); got != want {
		t.Fatalf("P1101: Reduce of %x is %x, want %x", n, got, want)
	}
}

func TestP1101Reduce(t *testing.T) {
	checkReduce(t, order())
	for _, n := range notable(512) {
		checkReduce(t, n)
	}
	s := newSampler(2)
	for range 50000 {
		checkReduce(t, s.double())
	}
}

// Numbers near 0, 2^252 and L are followed by all kinds of lower bits, so that
// they come up as remainders at every place.
func TestP1101ReduceFromEveryBit(t *testing.T) {
	s := newSampler(3)
	heads := slices.Concat(around(order(), 2, 512), around(power(252), 2, 512), around(new(big.Int), 2, 512))
	for bit := range uint(512 - 253 + 1) {
		for _, head := range heads {
			low := []*big.Int{new(big.Int), new(big.Int).Sub(power(bit), big.NewInt(1))}
			for range 3 {
				low = append(low, new(big.Int).Mod(s.random(512), power(bit)))
			}
			for _, l := range low {
				n := new(big.Int).Lsh(head, bit)
				checkReduce(t, n.Add(n, l))
			}
		}
	}
}

func checkAdd(t *testing.T, a, b *big.Int) {
	t.Helper()
	want := mod(new(big.Int).Add(a, b))
	if got := scalar.Add(encoded(a), encoded(b)); got != want {
		t.Fatalf("P1101: Add of %x and %x is %x, want %x", a, b, got, want)
	}
}

func TestP1101Add(t *testing.T) {
	greatest := new(big.Int).Sub(power(256), big.NewInt(1))
	for _, n := range notable(256) {
		checkAdd(t, n, n)
		checkAdd(t, n, new(big.Int))
		checkAdd(t, new(big.Int), n)
		checkAdd(t, n, greatest)
		checkAdd(t, greatest, n)
		// together L, and one more or less than L
		for _, l := range around(order(), 1, 256) {
			if other := new(big.Int).Sub(l, n); other.Sign() >= 0 {
				checkAdd(t, n, other)
			}
		}
	}
	s := newSampler(4)
	for range 20000 {
		checkAdd(t, s.number(), s.number())
	}
}

func checkNeg(t *testing.T, a *big.Int) {
	t.Helper()
	got := decoded(scalar.Neg(encoded(a)))
	if got.Cmp(order()) >= 0 {
		t.Fatalf("P1101: Neg of %x is %x, which is not below L", a, got)
	}
	if sum := new(big.Int).Add(a, got); mod(sum) != [32]byte{} {
		t.Fatalf("P1101: Neg of %x is %x: with %x it is no multiple of L", a, got, a)
	}
}

func TestP1101Neg(t *testing.T) {
	for _, n := range notable(256) {
		checkNeg(t, n)
	}
	s := newSampler(5)
	for range 20000 {
		checkNeg(t, s.number())
	}
	for i := range int64(16) {
		multiple := encoded(new(big.Int).Mul(order(), big.NewInt(i)))
		if got := scalar.Neg(multiple); got != [32]byte{} {
			t.Errorf("P1101: Neg of %d times L is %x", i, got)
		}
	}
}

func checkMulAdd(t *testing.T, a, b, c *big.Int) {
	t.Helper()
	n := new(big.Int).Mul(a, b)
	want := mod(n.Add(n, c))
	if got := scalar.MulAdd(encoded(a), encoded(b), encoded(c)); got != want {
		t.Fatalf("P1101: MulAdd of %x, %x, %x is %x, want %x", a, b, c, got, want)
	}
}

func TestP1101MulAdd(t *testing.T) {
	greatest := new(big.Int).Sub(power(256), big.NewInt(1))
	plain := []*big.Int{new(big.Int), big.NewInt(1), order(), greatest}
	for _, n := range notable(256) {
		for _, a := range plain {
			for _, b := range plain {
				checkMulAdd(t, n, a, b)
				checkMulAdd(t, a, n, b)
				checkMulAdd(t, a, b, n)
			}
		}
		checkMulAdd(t, n, n, n)
	}
	s := newSampler(6)
	for range 50000 {
		checkMulAdd(t, s.number(), s.number(), s.number())
	}
}

// Every bit of a is multiplied by every bit of b.
func TestP1101MulAddBits(t *testing.T) {
	c := new(big.Int).Sub(power(256), big.NewInt(1))
	for i := range uint(256) {
		for j := range uint(256) {
			checkMulAdd(t, power(i), power(j), new(big.Int))
			checkMulAdd(t, power(i), power(j), c)
		}
	}
}

// A signature's second half is MulAdd of the numbers that its bytes tell: here
// it is held against the standard library's signatures.
func TestP1101Signatures(t *testing.T) {
	s := newSampler(7)
	for range 200 {
		seed := encoded(s.number())
		message := s.random(512).Bytes()
		private := ed25519.NewKeyFromSeed(seed[:])
		sign := ed25519.Sign(private, message)
		h := sha512.Sum512(seed[:])
		secret := [32]byte(h[:32])
		secret[0] &= 0xf8
		secret[31] = secret[31]&0x7f | 0x40
		r := scalar.Reduce(sha512.Sum512(slices.Concat(h[32:], message)))
		k := scalar.Reduce(sha512.Sum512(slices.Concat(sign[:32], private[32:], message)))
		if got := scalar.MulAdd(k, secret, r); got != [32]byte(sign[32:]) {
			t.Fatalf("P1101: MulAdd of %x, %x, %x is %x, the signature has %x", k, secret, r, got, sign[32:])
		}
	}
}

func TestP1101Bit(t *testing.T) {
	s := newSampler(8)
	for range 100 {
		n := s.number()
		a := encoded(n)
		for i := range 256 {
			if got := scalar.Bit(a, i); got != int(n.Bit(i)) {
				t.Fatalf("P1101: Bit %d of %x is %d", i, n, got)
			}
		}
	}
	for i := range 256 {
		a := encoded(power(uint(i)))
		for j := range 256 {
			if got := scalar.Bit(a, j); (got == 1) != (i == j) || got&^1 != 0 {
				t.Fatalf("P1101: Bit %d of 2^%d is %d", j, i, got)
			}
		}
	}
}

func TestP1101BitOutOfRange(t *testing.T) {
	a := encoded(new(big.Int).Sub(power(256), big.NewInt(1)))
	out := []int{-1, -2, -7, -8, -9, -63, -64, -255, -256, -257, math.MinInt, math.MinInt + 1, math.MinInt + 256,
		256, 257, 263, 264, 511, 512, 1 << 31, 1 << 32, 1<<32 + 1, 1 << 62, math.MaxInt - 1, math.MaxInt}
	for _, i := range out {
		if got := scalar.Bit(a, i); got != 0 {
			t.Errorf("P1101: Bit %d is %d", i, got)
		}
	}
	if scalar.Bit(a, 0) != 1 || scalar.Bit(a, 255) != 1 {
		t.Error("P1101: Bits 0 and 255 of 2^256 - 1 are not both 1")
	}
}
