package edph_test

import (
	"bytes"
	"crypto"
	"crypto/ed25519"
	"crypto/sha512"
	"encoding/hex"
	"math/big"
	"math/rand/v2"
	"slices"
	"testing"

	"bootjack/api"
	"bootjack/edph"
	"bootjack/point"
)

// order is L, the order of the base point.
func order() *big.Int {
	rest, _ := new(big.Int).SetString("27742317777372353535851937790883648493", 10)
	return rest.Add(rest, new(big.Int).Lsh(big.NewInt(1), 252))
}

// encoded is n, which is at least 0 and less than 2^256, in little-endian order.
func encoded(n *big.Int) [32]byte {
	var b [32]byte
	n.FillBytes(b[:])
	slices.Reverse(b[:])
	return b
}

// read is the number whose little-endian bytes are b.
func read(b []byte) *big.Int {
	b = bytes.Clone(b)
	slices.Reverse(b)
	return new(big.Int).SetBytes(b)
}

// unhex are the bytes that are written in hexadecimal digits.
func unhex(t *testing.T, s string) []byte {
	t.Helper()
	b, err := hex.DecodeString(s)
	if err != nil {
		t.Fatal(err)
	}
	return b
}

// copies is the sum of n copies of p.
func copies(n *big.Int, p point.Point) point.Point {
	s := point.Zero()
	for i := range n.BitLen() {
		if n.Bit(i) == 1 {
			s = point.Add(s, p)
		}
		p = p.Double()
	}
	return s
}

// small are the eight points whose order divides 8: element i is i times one of
// order 8.
func small(t *testing.T) []point.Point {
	t.Helper()
	b := unhex(t, "c7176a703d4dd84fba3c0b760d10670f2a2053fa2c39ccc64ec7fd7792ac037a")
	p, ok := point.Decode([32]byte(b))
	if !ok {
		t.Fatal("the point of order 8 has no encoding")
	}
	all := []point.Point{point.Zero()}
	for len(all) < 8 {
		all = append(all, point.Add(all[len(all)-1], p))
	}
	return all
}

// marked are the bytes ahead of all others for a context, with its length modulo
// 256 if there are more than 255 bytes.
func marked(context []byte) []byte {
	return slices.Concat([]byte("SigEd25519 no Ed25519 collisions"), []byte{1, byte(len(context))}, context)
}

// hashed is the digest of the parts as a number modulo L.
func hashed(parts ...[]byte) *big.Int {
	h := sha512.Sum512(slices.Concat(parts...))
	n := read(h[:])
	return n.Mod(n, order())
}

// secret is the secret scalar of a seed.
func secret(seed [32]byte) *big.Int {
	h := sha512.Sum512(seed[:])
	n := read(h[:32])
	for _, i := range []int{0, 1, 2, 255} {
		n.SetBit(n, i, 0)
	}
	return n.SetBit(n, 254, 1)
}

// pair is R followed by S.
func pair(r, s [32]byte) [64]byte {
	return [64]byte(slices.Concat(r[:], s[:]))
}

// solved is k * a + r modulo L.
func solved(k, a, r *big.Int) [32]byte {
	n := new(big.Int).Mul(k, a)
	n.Add(n, r)
	return encoded(n.Mod(n, order()))
}

// standard is the standard library's signature.
func standard(t *testing.T, seed [32]byte, context []byte, sum [64]byte) [64]byte {
	t.Helper()
	sign, err := ed25519.NewKeyFromSeed(seed[:]).Sign(nil, sum[:], options(context))
	if err != nil {
		t.Fatal(err)
	}
	return [64]byte(sign)
}

// options are those of Ed25519ph for a context.
func options(context []byte) *ed25519.Options {
	return &ed25519.Options{Hash: crypto.SHA512, Context: string(context)}
}

// sampler makes arguments.
type sampler struct{ *rand.Rand }

func newSampler(seed uint64) sampler {
	return sampler{rand.New(rand.NewPCG(14, seed))}
}

func (s sampler) bytes(n int) []byte {
	b := make([]byte, n)
	for i := range b {
		b[i] = byte(s.Uint32())
	}
	return b
}

func (s sampler) seed() [32]byte { return [32]byte(s.bytes(32)) }

func (s sampler) sum() [64]byte { return [64]byte(s.bytes(64)) }

// number is one below L.
func (s sampler) number() *big.Int {
	return hashed(s.bytes(64))
}

// context is one that may be signed for: often an empty one, or the longest.
func (s sampler) context() []byte {
	switch s.IntN(4) {
	case 0:
		return nil
	case 1:
		return s.bytes(255)
	}
	return s.bytes(s.IntN(256))
}

func TestP1401Prefix(t *testing.T) {
	s := newSampler(1)
	for n := range 256 {
		context := s.bytes(n)
		if got, want := edph.Prefix(context), marked(context); !bytes.Equal(got, want) {
			t.Fatalf("P1401: Prefix of %d bytes is %q, want %q", n, got, want)
		}
	}
	if got := edph.Prefix(nil); !bytes.Equal(got, edph.Prefix([]byte{})) {
		t.Errorf("P1401: Prefix of nil is %q", got)
	}
}

func TestP1401PrefixOfALongContext(t *testing.T) {
	for _, n := range []int{256, 257, 511, 512, 768, 1000, 65536} {
		if got := edph.Prefix(make([]byte, n)); len(got) != 0 {
			t.Errorf("P1401: Prefix of %d bytes is %q", n, got)
		}
	}
}

func TestP1401PrefixIsNew(t *testing.T) {
	whole := bytes.Repeat([]byte{7}, 100)
	context := whole[:20]
	first := edph.Prefix(context)
	second := edph.Prefix(context)
	for i := range first {
		first[i] = 9
	}
	_ = append(first, 9)
	if !bytes.Equal(second, marked(bytes.Repeat([]byte{7}, 20))) {
		t.Errorf("P1401: Prefix is %q after a change of another", second)
	}
	if !bytes.Equal(whole, bytes.Repeat([]byte{7}, 100)) {
		t.Error("P1401: Prefix shares its context")
	}
}

// example is that of RFC 8032, 7.3: the sum is that of "abc", and there is no
// context.
func example(t *testing.T) (seed, public [32]byte, sum, sign [64]byte) {
	t.Helper()
	seed = [32]byte(unhex(t, "833fe62409237b9d62ec77587520911e9a759cec1d19755b7da901b96dca3d42"))
	public = [32]byte(unhex(t, "ec172b93ad5e563bf4932c70e1245034c35467ef2efd4d64ebf819683467e2bf"))
	sign = [64]byte(unhex(t, "98a70222f0b8121aa9d30f813d683f809e462b469c7ff87639499bb94e6dae41"+
		"31f85042463c2a355a2003d062adf5aaa10b8c61e636062aaad11c2a26083406"))
	return seed, public, sha512.Sum512([]byte("abc")), sign
}

func TestP1401Example(t *testing.T) {
	seed, public, sum, want := example(t)
	if got := edph.Public(seed); got != public {
		t.Errorf("P1401: Public is %x, want %x", got, public)
	}
	for _, context := range [][]byte{nil, {}} {
		if got, e := edph.Sign(seed, context, sum); e != api.OK || got != want {
			t.Errorf("P1401: Sign is %x, %v, want %x", got, e, want)
		}
	}
}

func TestP1401Public(t *testing.T) {
	s := newSampler(2)
	seeds := [][32]byte{{}, {1}, {31: 128}, [32]byte(bytes.Repeat([]byte{255}, 32))}
	for range 200 {
		seeds = append(seeds, s.seed())
	}
	for _, seed := range seeds {
		got, want := edph.Public(seed), ed25519.NewKeyFromSeed(seed[:])[32:]
		if !bytes.Equal(got[:], want) {
			t.Fatalf("P1401: Public of %x is %x, want %x", seed, got, want)
		}
	}
}

func TestP1401Sign(t *testing.T) {
	s := newSampler(3)
	for range 200 {
		seed, context, sum := s.seed(), s.context(), s.sum()
		want := standard(t, seed, context, sum)
		if got, e := edph.Sign(seed, context, sum); e != api.OK || got != want {
			t.Fatalf("P1401: Sign(%x, %x, %x) is %x, %v, want %x", seed, context, sum, got, e, want)
		}
	}
}

func TestP1401SignOfNotableArguments(t *testing.T) {
	ones := bytes.Repeat([]byte{255}, 255)
	for _, seed := range [][32]byte{{}, [32]byte(ones)} {
		for _, sum := range [][64]byte{{}, {63: 1}, [64]byte(ones)} {
			for _, context := range [][]byte{nil, {0}, {1}, make([]byte, 254), make([]byte, 255), ones} {
				want := standard(t, seed, context, sum)
				if got, e := edph.Sign(seed, context, sum); e != api.OK || got != want {
					t.Errorf("P1401: Sign(%x, %x, %x) is %x, %v, want %x", seed, context, sum, got, e, want)
				}
			}
		}
	}
}

func TestP1401SignForALongContext(t *testing.T) {
	s := newSampler(4)
	for _, n := range []int{256, 257, 288, 511, 512, 1000, 65536} {
		if sign, e := edph.Sign(s.seed(), make([]byte, n), s.sum()); e != api.ErrArg || sign != [64]byte{} {
			t.Errorf("P1401: Sign for %d bytes is %x, %v", n, sign, e)
		}
	}
}

func TestP1401P1402ContextStays(t *testing.T) {
	seed, public, sum, _ := example(t)
	whole := bytes.Repeat([]byte{7}, 300)
	context := whole[:20]
	sign, _ := edph.Sign(seed, context, sum)
	if !edph.Verify(public, context, sum, sign) {
		t.Error("P1402: Verify of what Sign returned is false")
	}
	if !bytes.Equal(whole, bytes.Repeat([]byte{7}, 300)) {
		t.Error("P1401: Sign or Verify changed its context")
	}
}

func TestP1402Example(t *testing.T) {
	_, public, sum, sign := example(t)
	for _, context := range [][]byte{nil, {}} {
		if !edph.Verify(public, context, sum, sign) {
			t.Error("P1402: Verify of the example is false")
		}
	}
}

func TestP1402StandardSignatures(t *testing.T) {
	s := newSampler(5)
	for range 200 {
		seed, context, sum := s.seed(), s.context(), s.sum()
		public := [32]byte(ed25519.NewKeyFromSeed(seed[:])[32:])
		sign := standard(t, seed, context, sum)
		if !edph.Verify(public, context, sum, sign) {
			t.Fatalf("P1402: Verify(%x, %x, %x, %x) is false", public, context, sum, sign)
		}
	}
}

func TestP1402EveryBitCounts(t *testing.T) {
	seed, public, sum, _ := example(t)
	context := []byte("a context")
	sign := standard(t, seed, context, sum)
	check := func(what string, part []byte, valid func() bool) {
		for i := range 8 * len(part) {
			part[i/8] ^= 1 << (i % 8)
			if valid() {
				t.Errorf("P1402: Verify is true after a change of bit %d of the %s", i, what)
			}
			part[i/8] ^= 1 << (i % 8)
		}
	}
	valid := func() bool { return edph.Verify(public, context, sum, sign) }
	check("key", public[:], valid)
	check("context", context, valid)
	check("sum", sum[:], valid)
	check("signature", sign[:], valid)
	if !valid() {
		t.Error("P1402: Verify without a change is false")
	}
}

func TestP1402AnotherContext(t *testing.T) {
	seed, public, sum, _ := example(t)
	contexts := [][]byte{nil, {0}, {0, 0}, []byte("a"), []byte("ab"), make([]byte, 254), make([]byte, 255)}
	for i, signed := range contexts {
		sign := standard(t, seed, signed, sum)
		for k, context := range contexts {
			if got := edph.Verify(public, context, sum, sign); got != (i == k) {
				t.Errorf("P1402: Verify for %x of a signature for %x is %v", context, signed, got)
			}
		}
	}
}

// TestP1402OtherSignatures has signatures of the sum by the same key, but not
// according to Ed25519ph.
func TestP1402OtherSignatures(t *testing.T) {
	seed, public, sum, _ := example(t)
	key := ed25519.NewKeyFromSeed(seed[:])
	context := []byte("a context")
	contextual, err := key.Sign(nil, sum[:], &ed25519.Options{Context: string(context)})
	if err != nil {
		t.Fatal(err)
	}
	if edph.Verify(public, context, sum, [64]byte(contextual)) {
		t.Error("P1402: Verify of a signature according to Ed25519ctx is true")
	}
	pure := [64]byte(ed25519.Sign(key, sum[:]))
	if edph.Verify(public, nil, sum, pure) {
		t.Error("P1402: Verify of a signature according to Ed25519 is true")
	}
}

// TestP1402LongContext has the signatures that fit if nothing precedes what is
// hashed, and if the length of the context is taken modulo 256.
func TestP1402LongContext(t *testing.T) {
	s := newSampler(6)
	seed, public, sum, _ := example(t)
	for _, n := range []int{256, 257, 288, 511, 512, 1000} {
		context := s.bytes(n)
		for _, prefix := range [][]byte{nil, marked(context), marked(context)[:34], marked(context[:255])} {
			n := s.number()
			r := copies(n, point.Base()).Encode()
			k := hashed(prefix, r[:], public[:], sum[:])
			if edph.Verify(public, context, sum, pair(r, solved(k, secret(seed), n))) {
				t.Errorf("P1402: Verify for %d bytes is true, with %d bytes hashed ahead", n, len(prefix))
			}
		}
	}
}

// undecoded are 32 bytes each that are the encoding of no point: without an x,
// with a y of p or more, or with the sign of an x that is 0.
func undecoded() [][32]byte {
	prime := new(big.Int).Lsh(big.NewInt(1), 255)
	prime.Sub(prime, big.NewInt(19))
	ys := []*big.Int{big.NewInt(2), big.NewInt(7), big.NewInt(1), new(big.Int).Sub(prime, big.NewInt(1))}
	for i := range int64(19) {
		ys = append(ys, new(big.Int).Add(prime, big.NewInt(i)))
	}
	var all [][32]byte
	for _, y := range ys {
		for sign := range uint(2) {
			b := encoded(new(big.Int).SetBit(y, 255, sign))
			if _, ok := point.Decode(b); !ok {
				all = append(all, b)
			}
		}
	}
	return all
}

// TestP1402UndecodedKey has the signatures that fit if Zero is taken for a key
// that is none.
func TestP1402UndecodedKey(t *testing.T) {
	s := newSampler(7)
	keys := undecoded()
	if len(keys) != 2+2+1+1+2*19 {
		t.Fatalf("%d keys", len(keys))
	}
	for _, public := range keys {
		r := s.number()
		sign := pair(copies(r, point.Base()).Encode(), encoded(r))
		if edph.Verify(public, s.context(), s.sum(), sign) {
			t.Errorf("P1402: Verify by %x is true", public)
		}
	}
	r := s.number()
	if !edph.Verify([32]byte{1}, s.context(), s.sum(), pair(copies(r, point.Base()).Encode(), encoded(r))) {
		t.Error("P1402: Verify by Zero is false")
	}
}

// TestP1402UncanonicalS has an S for which the equation holds, but which is L or
// more.
func TestP1402UncanonicalS(t *testing.T) {
	s := newSampler(8)
	for range 20 {
		seed, context, sum := s.seed(), s.context(), s.sum()
		public, sign := edph.Public(seed), standard(t, seed, context, sum)
		n := read(sign[32:])
		for {
			n.Add(n, order())
			if n.BitLen() > 256 {
				break
			}
			if edph.Verify(public, context, sum, pair([32]byte(sign[:32]), encoded(n))) {
				t.Fatalf("P1402: Verify with an S of %v is true", n)
			}
		}
	}
}

// TestP1402NotableS has the key Zero, for which R is S times Base whatever the
// sum is, or S is not canonical.
func TestP1402NotableS(t *testing.T) {
	s := newSampler(9)
	first, last := new(big.Int), new(big.Int).Lsh(big.NewInt(1), 256)
	for d := int64(-3); d <= 3; d++ {
		for _, about := range []*big.Int{first, order(), new(big.Int).Lsh(order(), 1), last} {
			n := new(big.Int).Add(about, big.NewInt(d))
			if n.Sign() < 0 || n.BitLen() > 256 {
				continue
			}
			sign := pair(copies(n, point.Base()).Encode(), encoded(n))
			if got, want := edph.Verify([32]byte{1}, s.context(), s.sum(), sign), n.Cmp(order()) < 0; got != want {
				t.Errorf("P1402: Verify with an S of %v is %v", n, got)
			}
		}
	}
}

// TestP1402R has other bytes than the encoding of R that would be read as the
// same point.
func TestP1402R(t *testing.T) {
	one := [32]byte{1}
	signed := [32]byte{0: 1, 31: 128}
	above := [32]byte(slices.Concat([]byte{0xee}, bytes.Repeat([]byte{255}, 30), []byte{127})) // p + 1
	both := above
	both[31] = 255
	for _, r := range [][32]byte{signed, above, both, {}, {2}} {
		if edph.Verify(one, nil, [64]byte{}, pair(r, [32]byte{})) {
			t.Errorf("P1402: Verify with an R of %x is true", r)
		}
	}
	if !edph.Verify(one, nil, [64]byte{}, pair(one, [32]byte{})) {
		t.Error("P1402: Verify with Zero as R is false")
	}
}

// TestP1402SmallOrders has keys and an R to which a point of small order is added:
// the equation holds only if these points fit together too. With the cofactor it
// would hold for all of them, and with -k modulo L for others.
func TestP1402SmallOrders(t *testing.T) {
	s := newSampler(10)
	parts := small(t)
	for _, a := range []*big.Int{new(big.Int), big.NewInt(1), s.number(), s.number(), s.number()} {
		for i, keyPart := range parts {
			public := point.Add(copies(a, point.Base()), keyPart).Encode()
			for j, rPart := range parts {
				n, context, sum := s.number(), s.context(), s.sum()
				r := point.Add(copies(n, point.Base()), rPart).Encode()
				k := hashed(marked(context), r[:], public[:], sum[:])
				want := (j+int(new(big.Int).Mod(k, big.NewInt(8)).Int64())*i)%8 == 0
				if got := edph.Verify(public, context, sum, pair(r, solved(k, a, n))); got != want {
					t.Errorf("P1402: Verify is %v for %d times the point of order 8 in the key and %d times in R", got, i, j)
				}
			}
		}
	}
}

// valid is what Verify has to report.
func valid(public [32]byte, context []byte, sum, sign [64]byte) bool {
	a, ok := point.Decode(public)
	n := read(sign[32:])
	if len(context) > 255 || !ok || n.Cmp(order()) >= 0 {
		return false
	}
	k := hashed(marked(context), sign[:32], public[:], sum[:])
	r := point.Add(copies(n, point.Base()), copies(k, point.Neg(a))).Encode()
	return bytes.Equal(r[:], sign[:32])
}

// TestP1402AnyArguments has arguments that are no signatures at all.
func TestP1402AnyArguments(t *testing.T) {
	s := newSampler(11)
	var keys [][32]byte
	for _, p := range small(t) {
		keys = append(keys, p.Encode())
	}
	keys = append(keys, undecoded()...)
	keys = append(keys, [32]byte(bytes.Repeat([]byte{255}, 32)))
	held := 0
	for range 2000 {
		public, context, sum, sign := s.seed(), s.bytes(s.IntN(300)), s.sum(), [64]byte(s.bytes(64))
		if s.IntN(4) > 0 {
			public = keys[s.IntN(len(keys))]
		}
		if s.IntN(2) > 0 {
			sign = pair(keys[s.IntN(len(keys))], [32]byte{})
		}
		want := valid(public, context, sum, sign)
		if got := edph.Verify(public, context, sum, sign); got != want {
			t.Fatalf("P1402: Verify(%x, %x, %x, %x) is %v", public, context, sum, sign, got)
		}
		if want {
			held++
		}
	}
	if held == 0 {
		t.Error("no arguments were valid")
	}
}
