package mult_test

import (
	"bytes"
	"crypto/ecdh"
	"crypto/ed25519"
	"crypto/sha512"
	"encoding/hex"
	"math/big"
	"math/rand/v2"
	"slices"
	"testing"

	"bootjack/mult"
	"bootjack/point"
)

// whole is n as a big number.
func whole(n int64) *big.Int { return big.NewInt(n) }

// power is 2^n.
func power(n uint) *big.Int { return new(big.Int).Lsh(whole(1), n) }

// prime is 2^255 - 19.
func prime() *big.Int { return new(big.Int).Sub(power(255), whole(19)) }

// order is L, the order of the base point.
func order() *big.Int {
	rest, _ := new(big.Int).SetString("27742317777372353535851937790883648493", 10)
	return rest.Add(rest, power(252))
}

// encoded is n, which is at least 0 and less than 2^256, in little-endian order.
func encoded(n *big.Int) [32]byte {
	var b [32]byte
	n.FillBytes(b[:])
	slices.Reverse(b[:])
	return b
}

// read is the number whose encoding is b.
func read(b [32]byte) *big.Int {
	slices.Reverse(b[:])
	return new(big.Int).SetBytes(b[:])
}

// copies is the sum of n copies of p, from the lowest bit of n on.
func copies(n *big.Int, p point.Point) point.Point {
	s := point.Zero()
	for i := range n.BitLen() {
		if n.Bit(i) == 1 {
			s = point.Add(s, p)
		}
		p = p.Double()
	}
	return s
}

// notable are numbers near 0, near multiples of L, near powers of 2, and near
// 2^256.
func notable() [][32]byte {
	var all [][32]byte
	near := func(m *big.Int, most int64) {
		for d := -most; d <= most; d++ {
			n := new(big.Int).Add(m, whole(d))
			if n.Sign() >= 0 && n.BitLen() <= 256 {
				all = append(all, encoded(n))
			}
		}
	}
	near(whole(0), 20)
	near(prime(), 2)
	near(power(256), 20)
	for k := range int64(16) {
		near(new(big.Int).Mul(order(), whole(k)), 2)
	}
	for i := range uint(256) {
		near(power(i), 1)
	}
	return all
}

// small are the eight points whose order divides 8: element i is i times one of
// order 8.
func small(t *testing.T) []point.Point {
	t.Helper()
	b, err := hex.DecodeString("c7176a703d4dd84fba3c0b760d10670f2a2053fa2c39ccc64ec7fd7792ac037a")
	if err != nil {
		t.Fatal(err)
	}
	p, ok := point.Decode([32]byte(b))
	if !ok {
		t.Fatal("the point of order 8 has no encoding")
	}
	all := []point.Point{point.Zero()}
	for len(all) < 8 {
		all = append(all, point.Add(all[len(all)-1], p))
	}
	return all
}

// sampler makes numbers and points.
type sampler struct {
	*rand.Rand
	notable [][32]byte
	small   []point.Point
}

func newSampler(t *testing.T, seed uint64) sampler {
	t.Helper()
	return sampler{rand.New(rand.NewPCG(13, seed)), notable(), small(t)}
}

// bytes are any 32 bytes.
func (s sampler) bytes() [32]byte {
	var b [32]byte
	for i := range b {
		b[i] = byte(s.Uint32())
	}
	return b
}

// number is any number.
func (s sampler) number() [32]byte {
	if s.IntN(3) == 0 {
		return s.notable[s.IntN(len(s.notable))]
	}
	return s.bytes()
}

// decoded is a point as Decode left it, most likely of an order other than L.
func (s sampler) decoded() point.Point {
	for {
		if p, ok := point.Decode(s.bytes()); ok {
			return p
		}
	}
}

// point is any point, in some representation.
func (s sampler) point() point.Point {
	switch s.IntN(10) {
	case 0:
		return s.small[s.IntN(8)]
	case 1:
		return point.Point{}
	case 2:
		return point.Neg(point.Point{}.Double())
	case 3:
		return point.Base()
	case 4:
		return point.Neg(point.Base())
	case 5:
		return point.Add(point.Base(), s.small[s.IntN(8)])
	case 6:
		return point.Add(s.decoded(), s.decoded())
	}
	return s.decoded()
}

// check holds got against want, by Equal and by what can be seen of them.
func check(t *testing.T, got, want point.Point, told ...any) {
	t.Helper()
	if !point.Equal(got, want) || !point.Equal(want, got) || got.Encode() != want.Encode() {
		t.Fatalf("P1301: %v: %x, want %x", told, got.Encode(), want.Encode())
	}
	if point.Add(got, point.Base()).Encode() != point.Add(want, point.Base()).Encode() {
		t.Fatalf("P1301: %v: wrong sum with the base point", told)
	}
	if got.Double().Encode() != want.Double().Encode() {
		t.Fatalf("P1301: %v: wrong Double", told)
	}
}

func TestP1301Example(t *testing.T) {
	check(t, mult.Base([32]byte{1}), point.Base(), "Base of 1")
}

// TestP1301Few adds copies of points one by one.
func TestP1301Few(t *testing.T) {
	s := newSampler(t, 1)
	points := append(s.small, point.Point{}, point.Base(), point.Neg(point.Base()), s.decoded(), point.Add(s.decoded(), s.decoded()))
	for i, p := range points {
		want := point.Zero()
		for n := range int64(600) {
			if got := mult.Mult(encoded(whole(n)), p); !point.Equal(got, want) {
				t.Fatalf("P1301: Mult by %d of point %d: %x, want %x", n, i, got.Encode(), want.Encode())
			}
			want = point.Add(want, p)
		}
	}
}

// TestP1301FewLast adds copies of points one by one, from 2^256 - 1 copies down.
func TestP1301FewLast(t *testing.T) {
	s := newSampler(t, 2)
	for range 3 {
		p := s.decoded()
		want := copies(power(256), p)
		for d := int64(1); d < 300; d++ {
			want = point.Add(want, point.Neg(p))
			n := new(big.Int).Sub(power(256), whole(d))
			if got := mult.Mult(encoded(n), p); !point.Equal(got, want) {
				t.Fatalf("P1301: Mult by 2^256 - %d: %x, want %x", d, got.Encode(), want.Encode())
			}
		}
	}
}

// TestP1301Half takes each value of each half of a byte alone.
func TestP1301Half(t *testing.T) {
	p := newSampler(t, 3).decoded()
	unit, unitOfBase := p, point.Base()
	for i := range uint(64) {
		want, wantOfBase := point.Zero(), point.Zero()
		for v := int64(1); v < 16; v++ {
			want, wantOfBase = point.Add(want, unit), point.Add(wantOfBase, unitOfBase)
			n := encoded(new(big.Int).Lsh(whole(v), 4*i))
			if !point.Equal(mult.Mult(n, p), want) {
				t.Fatalf("P1301: Mult by %d * 2^%d", v, 4*i)
			}
			if !point.Equal(mult.Base(n), wantOfBase) {
				t.Fatalf("P1301: Base of %d * 2^%d", v, 4*i)
			}
		}
		for range 4 {
			unit, unitOfBase = unit.Double(), unitOfBase.Double()
		}
	}
}

func TestP1301Mult(t *testing.T) {
	s := newSampler(t, 4)
	p := s.decoded()
	for _, n := range s.notable {
		check(t, mult.Mult(n, p), copies(read(n), p), "Mult by", n)
	}
	for range 1000 {
		n, p := s.number(), s.point()
		check(t, mult.Mult(n, p), copies(read(n), p), "Mult by", n, "of", p.Encode())
	}
}

func TestP1301Base(t *testing.T) {
	s := newSampler(t, 5)
	for _, n := range s.notable {
		check(t, mult.Base(n), copies(read(n), point.Base()), "Base of", n)
	}
	for range 500 {
		n := s.bytes()
		check(t, mult.Base(n), copies(read(n), point.Base()), "Base of", n)
	}
}

func TestP1301Two(t *testing.T) {
	s := newSampler(t, 6)
	for range 1000 {
		a, p, b := s.number(), s.point(), s.number()
		want := point.Add(copies(read(a), p), copies(read(b), point.Base()))
		check(t, mult.Two(a, p, b), want, "Two of", a, p.Encode(), b)
	}
}

// TestP1301TwoAlike takes terms of Two that are equal, opposite or zero.
func TestP1301TwoAlike(t *testing.T) {
	s := newSampler(t, 7)
	base := point.Base()
	for _, n := range s.notable {
		m := copies(read(n), base)
		check(t, mult.Two(n, base, n), m.Double(), "Two, twice", n)
		check(t, mult.Two(n, point.Neg(base), n), point.Zero(), "Two, opposite", n)
		check(t, mult.Two(n, base, [32]byte{}), m, "Two, the other 0", n)
		check(t, mult.Two([32]byte{}, s.point(), n), m, "Two, the one 0", n)
		check(t, mult.Two(s.number(), point.Point{}, n), m, "Two of the zero Point", n)
		check(t, mult.Two(s.number(), point.Zero(), n), m, "Two of Zero", n)
	}
	check(t, mult.Two([32]byte{}, s.decoded(), [32]byte{}), point.Zero(), "Two of 0 and 0")
}

// TestP1301Zero takes the number 0 and the neutral element, which has several
// representations.
func TestP1301Zero(t *testing.T) {
	s := newSampler(t, 8)
	var none point.Point
	check(t, mult.Base([32]byte{}), point.Zero(), "Base of 0")
	for _, z := range []point.Point{none, none.Double(), point.Neg(none), point.Neg(none.Double()), point.Zero(), point.Add(none, none)} {
		for _, n := range s.notable {
			check(t, mult.Mult(n, z), point.Zero(), "Mult of Zero by", n)
		}
	}
	for range 200 {
		check(t, mult.Mult([32]byte{}, s.point()), point.Zero(), "Mult by 0")
	}
}

// TestP1301Order takes multiples of L: they make Zero of the base point, but not
// of a point with a part of small order, for which numbers are not to be reduced.
func TestP1301Order(t *testing.T) {
	s := newSampler(t, 9)
	for k := range int64(16) {
		n := encoded(new(big.Int).Mul(order(), whole(k)))
		check(t, mult.Base(n), point.Zero(), "Base of L times", k)
		check(t, mult.Two(n, point.Base(), n), point.Zero(), "Two of L times", k)
		for i, p := range s.small {
			// The remainder of L by 8 is 5.
			want := s.small[5*k*int64(i)%8]
			check(t, mult.Mult(n, p), want, "Mult by L times", k, "of a point of small order", i)
			check(t, mult.Mult(n, point.Add(point.Base(), p)), want, "Mult by L times", k, "of a sum", i)
			check(t, mult.Two(n, point.Add(point.Base(), p), n), want, "Two of L times", k, "of a sum", i)
		}
	}
	for range 200 {
		n, i := s.bytes(), s.IntN(8)
		check(t, mult.Mult(n, s.small[i]), s.small[int(n[0])*i%8], "Mult by", n, "of a point of small order", i)
	}
	for range 50 {
		n := encoded(new(big.Int).Mul(order(), whole(8)))
		check(t, mult.Mult(n, s.decoded()), point.Zero(), "Mult by 8 * L")
	}
}

// TestP1301Sum holds Mult by a sum, and by a product, against Mult by its parts.
func TestP1301Sum(t *testing.T) {
	s := newSampler(t, 10)
	for range 300 {
		a, b, p := s.bytes(), s.bytes(), s.decoded()
		a[31] &= 127
		b[31] &= 127
		n := encoded(new(big.Int).Add(read(a), read(b)))
		check(t, mult.Mult(n, p), point.Add(mult.Mult(a, p), mult.Mult(b, p)), "Mult by", a, "+", b)
		for i := range 16 {
			a[16+i], b[16+i] = 0, 0
		}
		n = encoded(new(big.Int).Mul(read(a), read(b)))
		check(t, mult.Mult(n, p), mult.Mult(a, mult.Mult(b, p)), "Mult by", a, "*", b)
	}
}

// clamped is the secret number that the standard library makes of b.
func clamped(b [32]byte) [32]byte {
	b[0] &= 248
	b[31] = b[31]&127 | 64
	return b
}

// TestP1301PublicKeys holds Base against the standard library's public keys.
func TestP1301PublicKeys(t *testing.T) {
	s := newSampler(t, 11)
	for range 300 {
		seed := s.bytes()
		digest := sha512.Sum512(seed[:])
		n := clamped([32]byte(digest[:32]))
		want := ed25519.NewKeyFromSeed(seed[:]).Public().(ed25519.PublicKey)
		if got := mult.Base(n).Encode(); !bytes.Equal(got[:], want) {
			t.Fatalf("P1301: Base of %x: %x, want %x", n, got, want)
		}
	}
}

// montgomery is (1 + y) / (1 - y), for y other than 1: what the standard library
// knows of a point.
func montgomery(p point.Point) []byte {
	b := p.Encode()
	b[31] &= 127
	y := read(b)
	under := new(big.Int).Sub(whole(1), y)
	u := new(big.Int).ModInverse(under.Mod(under, prime()), prime())
	u.Mul(u, y.Add(y, whole(1)))
	all := encoded(u.Mod(u, prime()))
	return all[:]
}

// TestP1301Secrets holds Mult against the standard library's shared secrets.
func TestP1301Secrets(t *testing.T) {
	s := newSampler(t, 12)
	for range 300 {
		n, p := clamped(s.bytes()), s.decoded()
		key, err := ecdh.X25519().NewPrivateKey(n[:])
		if err != nil {
			t.Fatal(err)
		}
		other, err := ecdh.X25519().NewPublicKey(montgomery(p))
		if err != nil {
			t.Fatal(err)
		}
		want, err := key.ECDH(other)
		if err != nil {
			t.Fatal(err)
		}
		if got := montgomery(mult.Mult(n, p)); !bytes.Equal(got, want) {
			t.Fatalf("P1301: Mult by %x of %x: %x, want %x", n, p.Encode(), got, want)
		}
	}
}

// TestP1301Arguments asks twice, to see that the answers share nothing.
func TestP1301Arguments(t *testing.T) {
	s := newSampler(t, 13)
	for range 20 {
		a, p, b := s.bytes(), s.point(), s.bytes()
		first := mult.Two(a, p, b)
		mult.Two(b, s.point(), a)
		mult.Mult(b, p)
		mult.Base(a)
		if mult.Two(a, p, b) != first {
			t.Fatal("P1301: Two answers something else when asked again")
		}
	}
}
