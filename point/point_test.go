package point_test

import (
	"crypto/ed25519"
	"crypto/sha512"
	"encoding/hex"
	"math/big"
	"math/rand/v2"
	"slices"
	"testing"

	"bootjack/point"
)

// whole is n as a big number.
func whole(n int64) *big.Int { return big.NewInt(n) }

// power is 2^n.
func power(n uint) *big.Int { return new(big.Int).Lsh(whole(1), n) }

// prime is 2^255 - 19.
func prime() *big.Int { return new(big.Int).Sub(power(255), whole(19)) }

// order is L, the order of the base point.
func order() *big.Int {
	rest, _ := new(big.Int).SetString("27742317777372353535851937790883648493", 10)
	return rest.Add(rest, power(252))
}

// mod is n modulo p, in n.
func mod(n *big.Int) *big.Int { return n.Mod(n, prime()) }

func plus(a, b *big.Int) *big.Int  { return mod(new(big.Int).Add(a, b)) }
func minus(a, b *big.Int) *big.Int { return mod(new(big.Int).Sub(a, b)) }
func times(a, b *big.Int) *big.Int { return mod(new(big.Int).Mul(a, b)) }

// ratio is a / b, for b other than 0.
func ratio(a, b *big.Int) *big.Int { return times(a, new(big.Int).ModInverse(b, prime())) }

// curve is d, -121665 / 121666.
var curve = ratio(whole(-121665), whole(121666))

// plain is the model of a point: its x and its y.
type plain struct{ x, y *big.Int }

// zero is the model's neutral element.
func zero() plain { return plain{whole(0), whole(1)} }

// sum is the chapter's sum of two points.
func sum(p, q plain) plain {
	e := times(curve, times(times(p.x, q.x), times(p.y, q.y)))
	x := plus(times(p.x, q.y), times(q.x, p.y))
	y := plus(times(p.y, q.y), times(p.x, q.x))
	return plain{ratio(x, plus(whole(1), e)), ratio(y, minus(whole(1), e))}
}

func (p plain) negative() plain { return plain{minus(whole(0), p.x), p.y} }

func (p plain) same(q plain) bool { return p.x.Cmp(q.x) == 0 && p.y.Cmp(q.y) == 0 }

// encoded is n, which is at least 0 and less than 2^256, in little-endian order.
func encoded(n *big.Int) [32]byte {
	var b [32]byte
	n.FillBytes(b[:])
	slices.Reverse(b[:])
	return b
}

// bytes is the encoding of p.
func (p plain) bytes() [32]byte {
	b := encoded(p.y)
	b[31] |= byte(p.x.Bit(0) << 7)
	return b
}

// read is the model's Decode.
func read(b [32]byte) (plain, bool) {
	odd := uint(b[31] >> 7)
	b[31] &= 127
	slices.Reverse(b[:])
	y := new(big.Int).SetBytes(b[:])
	if y.Cmp(prime()) >= 0 {
		return plain{}, false
	}
	s := times(y, y)
	square := ratio(minus(s, whole(1)), plus(times(curve, s), whole(1)))
	x := new(big.Int).ModSqrt(square, prime())
	if x == nil || x.Sign() == 0 && odd == 1 {
		return plain{}, false
	}
	if x.Bit(0) != odd {
		x = minus(whole(0), x)
	}
	return plain{x, y}, true
}

// text is the encoding that s tells in hexadecimal.
func text(t *testing.T, s string) [32]byte {
	t.Helper()
	b, err := hex.DecodeString(s)
	if err != nil || len(b) != 32 {
		t.Fatal(s, err)
	}
	return [32]byte(b)
}

// notable are encodings, with and without the highest bit, of numbers near 0, p,
// 2^255 and half of these, of single bits, and of numbers that are p less those.
func notable() [][32]byte {
	var all [][32]byte
	add := func(n *big.Int) {
		if n.Sign() >= 0 && n.BitLen() <= 255 {
			all = append(all, encoded(n), encoded(new(big.Int).Add(n, power(255))))
		}
	}
	for _, m := range []*big.Int{whole(0), prime(), power(255), power(254), new(big.Int).Rsh(prime(), 1)} {
		for d := int64(-25); d <= 25; d++ {
			add(new(big.Int).Add(m, whole(d)))
		}
	}
	for i := range uint(255) {
		add(power(i))
		add(new(big.Int).Sub(power(i), whole(1)))
		add(new(big.Int).Sub(prime(), power(i)))
	}
	return all
}

// both is a point beside its model.
type both struct {
	point.Point
	plain
}

// small are the eight points whose order divides 8: element i is i times one of
// order 8.
func small(t *testing.T) []both {
	t.Helper()
	b := text(t, "c7176a703d4dd84fba3c0b760d10670f2a2053fa2c39ccc64ec7fd7792ac037a")
	p, ok := point.Decode(b)
	m, okModel := read(b)
	if !ok || !okModel {
		t.Fatal("P1201: the point of order 8 has no encoding")
	}
	all := []both{{point.Zero(), zero()}}
	for len(all) < 8 {
		last := all[len(all)-1]
		all = append(all, both{point.Add(last.Point, p), sum(last.plain, m)})
	}
	return all
}

// sampler makes encodings and points.
type sampler struct {
	*rand.Rand
	notable [][32]byte
	small   []both
}

func newSampler(t *testing.T, seed uint64) sampler {
	t.Helper()
	return sampler{rand.New(rand.NewPCG(12, seed)), notable(), small(t)}
}

// bytes is any encoding, of a point or of none.
func (s sampler) bytes() [32]byte {
	if s.IntN(3) == 0 {
		return s.notable[s.IntN(len(s.notable))]
	}
	var b [32]byte
	for i := range b {
		b[i] = byte(s.Uint32())
	}
	return b
}

// decoded is a point as Decode left it.
func (s sampler) decoded(t *testing.T) both {
	t.Helper()
	for {
		b := s.bytes()
		if m, ok := read(b); ok {
			p, ok := point.Decode(b)
			if !ok {
				t.Fatalf("P1201: Decode of %x: false", b)
			}
			return both{p, m}
		}
	}
}

// point is any point, in some representation.
func (s sampler) point(t *testing.T) both {
	t.Helper()
	var p both
	switch s.IntN(8) {
	case 0:
		p = s.small[s.IntN(8)]
	case 1:
		p = both{point.Point{}, zero()}
	case 2:
		p = both{point.Base(), base()}
	default:
		p = s.decoded(t)
	}
	return both{s.another(t, p.Point), p.plain}
}

// another is p, perhaps in another representation.
func (s sampler) another(t *testing.T, p point.Point) point.Point {
	t.Helper()
	q := s.decoded(t).Point
	switch s.IntN(6) {
	case 0:
		return point.Add(point.Add(p, q), point.Neg(q))
	case 1:
		return point.Add(point.Neg(q), point.Add(q, p))
	case 2:
		return point.Neg(point.Neg(p))
	case 3:
		return point.Add(p, point.Zero())
	case 4:
		return point.Add(p.Double(), point.Neg(p))
	}
	return p
}

// base is the model's base point.
func base() plain {
	p, _ := read(encoded(ratio(whole(4), whole(5))))
	return p
}

// check holds p against its model. The sum with the base point shows what Encode
// does not.
func check(t *testing.T, p point.Point, m plain, told ...any) {
	t.Helper()
	if got, want := p.Encode(), m.bytes(); got != want {
		t.Fatalf("P1201: %v: Encode %x, want %x", told, got, want)
	}
	if got, want := point.Add(p, point.Base()).Encode(), sum(m, base()).bytes(); got != want {
		t.Fatalf("P1201: %v: Encode of the sum with the base point %x, want %x", told, got, want)
	}
	again, ok := point.Decode(m.bytes())
	if !ok || !point.Equal(p, again) || !point.Equal(again, p) || !point.Equal(p, p) {
		t.Fatalf("P1201: %v: Equal of a point and itself is false", told)
	}
}

func TestP1201Example(t *testing.T) {
	want := [32]byte{0x58}
	for i := 1; i < len(want); i++ {
		want[i] = 0x66
	}
	if got := point.Base().Encode(); got != want {
		t.Errorf("P1201: Encode of Base: %x", got)
	}
}

func TestP1201ZeroAndBase(t *testing.T) {
	check(t, point.Zero(), zero(), "Zero")
	check(t, point.Point{}, zero(), "the zero Point")
	if base().x.Bit(0) != 0 || times(base().y, whole(5)).Cmp(whole(4)) != 0 {
		t.Fatal("the model's base point")
	}
	check(t, point.Base(), base(), "Base")
}

// TestP1201ZeroPoint takes the zero Point, and what the functions make of it,
// in each place where a point can be.
func TestP1201ZeroPoint(t *testing.T) {
	var none point.Point
	zeros := []point.Point{
		none, point.Zero(), none.Double(), none.Double().Double(), point.Neg(none), point.Neg(none).Double(),
		point.Neg(point.Neg(none)), point.Neg(none.Double()), point.Add(none, none), point.Add(point.Neg(none), none.Double()),
		point.Add(point.Zero(), none), point.Add(none, point.Zero()), point.Zero().Double(), point.Neg(point.Zero()),
		point.Add(point.Base(), point.Neg(point.Base())),
	}
	s := newSampler(t, 1)
	for i, z := range zeros {
		check(t, z, zero(), "zero", i)
		check(t, z.Double(), zero(), "Double of zero", i)
		check(t, point.Neg(z), zero(), "Neg of zero", i)
		for j, other := range zeros {
			check(t, point.Add(z, other), zero(), "Add of zeros", i, j)
			if !point.Equal(z, other) {
				t.Fatalf("P1201: zeros %d and %d are not Equal", i, j)
			}
		}
		for range 20 {
			p := s.decoded(t)
			check(t, point.Add(z, p.Point), p.plain, "Add of zero", i, "and", p)
			check(t, point.Add(p.Point, z), p.plain, "Add of", p, "and zero", i)
			want := p.same(zero())
			if point.Equal(z, p.Point) != want || point.Equal(p.Point, z) != want {
				t.Fatalf("P1201: Equal of zero %d and %x is not %v", i, p.bytes(), want)
			}
		}
	}
}

// checkDecode holds Decode of b against the model.
func checkDecode(t *testing.T, b [32]byte) bool {
	t.Helper()
	p, ok := point.Decode(b)
	m, want := read(b)
	if ok != want {
		t.Fatalf("P1201: Decode of %x: %v", b, ok)
	}
	if !ok {
		if p != (point.Point{}) {
			t.Fatalf("P1201: Decode of %x, which is no point's: not the zero Point", b)
		}
		return false
	}
	if p.Encode() != b {
		t.Fatalf("P1201: Decode of %x is the point %x", b, p.Encode())
	}
	check(t, p, m, "Decode", b)
	return true
}

func TestP1201Decode(t *testing.T) {
	for _, b := range notable() {
		checkDecode(t, b)
	}
	s := newSampler(t, 2)
	seen := map[bool]int{}
	for range 1500 {
		b := s.bytes()
		seen[checkDecode(t, b)]++
		b[31] ^= 128
		checkDecode(t, b)
	}
	if seen[true] < 500 || seen[false] < 500 {
		t.Fatal("too few", seen)
	}
}

// TestP1201DecodeAtP takes all numbers from p to 2^255 - 1, some of which would
// be those of points if they were reduced.
func TestP1201DecodeAtP(t *testing.T) {
	points := 0
	for d := range int64(19) {
		for _, high := range []byte{0, 128} {
			reduced := encoded(whole(d))
			reduced[31] |= high
			if _, ok := point.Decode(reduced); ok {
				points++
			}
			b := encoded(new(big.Int).Add(prime(), whole(d)))
			b[31] |= high
			if p, ok := point.Decode(b); ok || p != (point.Point{}) {
				t.Errorf("P1201: Decode of p + %d: %v", d, ok)
			}
		}
	}
	if points < 10 {
		t.Errorf("P1201: only %d of the numbers below 19 are those of points", points)
	}
}

// TestP1201DecodeXOfZero takes the two points whose x is 0, so that their
// encodings have no other one beside.
func TestP1201DecodeXOfZero(t *testing.T) {
	for _, y := range []*big.Int{whole(1), new(big.Int).Sub(prime(), whole(1))} {
		b := encoded(y)
		p, ok := point.Decode(b)
		if !ok {
			t.Fatalf("P1201: Decode of %x: false", b)
		}
		check(t, p, plain{whole(0), y}, "x of 0 with y", y)
		b[31] |= 128
		if p, ok := point.Decode(b); ok || p != (point.Point{}) {
			t.Errorf("P1201: Decode of %x: %v", b, ok)
		}
	}
}

// TestP1201DecodeOther holds the two points of the same y against each other.
func TestP1201DecodeOther(t *testing.T) {
	s := newSampler(t, 3)
	for range 300 {
		p := s.decoded(t)
		if p.x.Sign() == 0 {
			continue
		}
		b := p.bytes()
		b[31] ^= 128
		q, ok := point.Decode(b)
		if !ok || point.Equal(p.Point, q) || !point.Equal(point.Neg(p.Point), q) {
			t.Fatalf("P1201: Decode of %x: not the negative of the other point, %v", b, ok)
		}
	}
}

func TestP1201Add(t *testing.T) {
	s := newSampler(t, 4)
	for range 1000 {
		p, q := s.point(t), s.point(t)
		check(t, point.Add(p.Point, q.Point), sum(p.plain, q.plain), "Add", p.bytes(), q.bytes())
	}
}

// TestP1201AddAlike adds points that other formulas for the sum leave out:
// equal ones, negatives, and those that differ by a point of small order.
func TestP1201AddAlike(t *testing.T) {
	s := newSampler(t, 5)
	for range 60 {
		p := s.point(t)
		for i, q := range s.small {
			r := both{s.another(t, point.Add(p.Point, q.Point)), sum(p.plain, q.plain)}
			check(t, r.Point, r.plain, "Add of small", i, p.bytes())
			check(t, point.Add(p.Point, r.Point), sum(p.plain, r.plain), "Add of alike", i, p.bytes())
			check(t, point.Add(point.Neg(p.Point), r.Point), q.plain, "Add of negative", i, p.bytes())
			check(t, point.Add(r.Point, point.Neg(p.Point)), q.plain, "Add of a negative", i, p.bytes())
		}
	}
}

func TestP1201Double(t *testing.T) {
	s := newSampler(t, 6)
	for range 1000 {
		p := s.point(t)
		check(t, p.Double(), sum(p.plain, p.plain), "Double", p.bytes())
		if !point.Equal(p.Double(), point.Add(p.Point, s.another(t, p.Point))) {
			t.Fatalf("P1201: Double of %x is not Add of it and itself", p.bytes())
		}
	}
}

func TestP1201Neg(t *testing.T) {
	s := newSampler(t, 7)
	for range 500 {
		p := s.point(t)
		n := point.Neg(p.Point)
		check(t, n, p.negative(), "Neg", p.bytes())
		check(t, point.Neg(n), p.plain, "Neg of Neg", p.bytes())
		if !point.Equal(point.Add(p.Point, n), point.Zero()) || !point.Equal(point.Add(n, p.Point), point.Zero()) {
			t.Fatalf("P1201: %x and its negative are not Zero together", p.bytes())
		}
	}
}

// TestP1201Small goes through all pairs of the points whose order divides 8.
func TestP1201Small(t *testing.T) {
	all := small(t)
	known := []string{
		"0100000000000000000000000000000000000000000000000000000000000000",
		"c7176a703d4dd84fba3c0b760d10670f2a2053fa2c39ccc64ec7fd7792ac037a",
		"0000000000000000000000000000000000000000000000000000000000000080",
		"26e8958fc2b227b045c3f489f2ef98f0d5dfac05d3c63339b13802886d53fc05",
		"ecffffffffffffffffffffffffffffffffffffffffffffffffffffffffffff7f",
		"26e8958fc2b227b045c3f489f2ef98f0d5dfac05d3c63339b13802886d53fc85",
		"0000000000000000000000000000000000000000000000000000000000000000",
		"c7176a703d4dd84fba3c0b760d10670f2a2053fa2c39ccc64ec7fd7792ac03fa",
	}
	for i, p := range all {
		if got := p.Encode(); got != text(t, known[i]) {
			t.Errorf("P1201: %d times the point of order 8: %x", i, got)
		}
		check(t, p.Point, p.plain, "small", i)
		check(t, p.Double(), all[2*i%8].plain, "Double of small", i)
		check(t, point.Neg(p.Point), all[(8-i)%8].plain, "Neg of small", i)
		for j, q := range all {
			check(t, point.Add(p.Point, q.Point), all[(i+j)%8].plain, "Add of small", i, j)
			if got := point.Equal(p.Point, q.Point); got != (i == j) {
				t.Errorf("P1201: Equal of small %d and %d: %v", i, j, got)
			}
		}
	}
}

// TestP1201Equal holds points against those that share one coordinate with them
// and against others.
func TestP1201Equal(t *testing.T) {
	s := newSampler(t, 8)
	minusOne, _ := point.Decode(encoded(new(big.Int).Sub(prime(), whole(1))))
	for range 500 {
		p := s.point(t)
		q := s.another(t, p.Point)
		if !point.Equal(p.Point, q) || !point.Equal(q, p.Point) {
			t.Fatalf("P1201: Equal of %x and itself: false", p.bytes())
		}
		opposite := both{point.Add(q, minusOne), plain{p.negative().x, minus(whole(0), p.y)}}
		sameX := both{point.Neg(opposite.Point), opposite.negative()}
		sameY := both{point.Neg(q), p.negative()}
		for _, r := range []both{opposite, sameX, sameY, s.point(t), s.decoded(t)} {
			want := p.same(r.plain)
			if point.Equal(p.Point, r.Point) != want || point.Equal(r.Point, p.Point) != want {
				t.Fatalf("P1201: Equal of %x and %x is not %v", p.bytes(), r.bytes(), want)
			}
			if p.Encode() == r.Encode() != want {
				t.Fatalf("P1201: encodings of %x and %x", p.bytes(), r.bytes())
			}
		}
	}
}

// TestP1201Group adds three points in all orders.
func TestP1201Group(t *testing.T) {
	s := newSampler(t, 9)
	for range 300 {
		p, q, r := s.point(t).Point, s.point(t).Point, s.point(t).Point
		want := point.Add(point.Add(p, q), r)
		for _, got := range []point.Point{
			point.Add(p, point.Add(q, r)), point.Add(point.Add(q, p), r),
			point.Add(q, point.Add(r, p)), point.Add(point.Add(r, p), q),
		} {
			if !point.Equal(got, want) || got.Encode() != want.Encode() {
				t.Fatalf("P1201: sums of %x, %x, %x in another order", p.Encode(), q.Encode(), r.Encode())
			}
		}
	}
}

// TestP1201Long does many operations one after another on points that are not
// encoded between.
func TestP1201Long(t *testing.T) {
	s := newSampler(t, 10)
	for range 40 {
		ps := []both{s.point(t), s.point(t), s.point(t)}
		for range 40 {
			i, j, k := s.IntN(3), s.IntN(3), s.IntN(3)
			switch s.IntN(4) {
			case 0:
				ps[k] = both{ps[i].Double(), sum(ps[i].plain, ps[i].plain)}
			case 1:
				ps[k] = both{point.Neg(ps[i].Point), ps[i].negative()}
			default:
				ps[k] = both{point.Add(ps[i].Point, ps[j].Point), sum(ps[i].plain, ps[j].plain)}
			}
		}
		for _, p := range ps {
			check(t, p.Point, p.plain, "a long row")
		}
	}
}

// multiple is n times p, by doubling and adding.
func multiple(n *big.Int, p point.Point) point.Point {
	var r point.Point
	for i := n.BitLen() - 1; i >= 0; i-- {
		r = r.Double()
		if n.Bit(i) == 1 {
			r = point.Add(r, p)
		}
	}
	return r
}

func TestP1201Order(t *testing.T) {
	check(t, multiple(order(), point.Base()), zero(), "L times Base")
	less := new(big.Int).Sub(order(), whole(1))
	check(t, multiple(less, point.Base()), base().negative(), "L - 1 times Base")
	s := newSampler(t, 11)
	seen := map[[32]byte]bool{}
	for range 100 {
		p := s.decoded(t).Point
		torsion := multiple(order(), p)
		if !slices.ContainsFunc(s.small, func(q both) bool { return point.Equal(torsion, q.Point) }) {
			t.Fatalf("P1201: L times %x has no small order", p.Encode())
		}
		seen[torsion.Encode()] = true
		check(t, multiple(new(big.Int).Lsh(order(), 3), p), zero(), "8 times L times", p.Encode())
	}
	if len(seen) != 8 {
		t.Errorf("P1201: L times a point is one of %d points", len(seen))
	}
}

// TestP1201PublicKeys needs no model: a public key of the standard library is
// the encoding of a multiple of the base point.
func TestP1201PublicKeys(t *testing.T) {
	s := newSampler(t, 12)
	for range 100 {
		seed := s.bytes()
		public := [32]byte(ed25519.NewKeyFromSeed(seed[:]).Public().(ed25519.PublicKey))
		h := sha512.Sum512(seed[:])
		h[0] &= 0xf8
		h[31] = h[31]&0x7f | 0x40
		secret := h[:32]
		slices.Reverse(secret)
		p := multiple(new(big.Int).SetBytes(secret), point.Base())
		if got := p.Encode(); got != public {
			t.Fatalf("P1201: the public key of the seed %x: %x, want %x", seed, got, public)
		}
		if q, ok := point.Decode(public); !ok || !point.Equal(p, q) || q.Encode() != public {
			t.Fatalf("P1201: Decode of the public key %x: %v", public, ok)
		}
	}
}
