package press_test

import (
	"bytes"
	"crypto/sha512"
	"encoding"
	"encoding/binary"
	"math"
	"math/big"
	"math/bits"
	"math/rand/v2"
	"testing"

	"bootjack/press"
	"bootjack/roots"
)

// notable are numbers that carry, that keep every bit, or that tell one bit
// from another.
func notable() []uint64 {
	numbers := []uint64{0, math.MaxUint64, 0x0123456789abcdef, 0x5555555555555555, 0xaaaaaaaaaaaaaaaa, 0xffffffff, 0xffffffff00000000}
	for i := range 64 {
		numbers = append(numbers, 1<<i, ^uint64(1<<i))
	}
	return numbers
}

// sampler makes blocks and states, of which some elements are notable.
type sampler struct{ *rand.Rand }

func newSampler(seed uint64) sampler { return sampler{rand.New(rand.NewPCG(7, seed))} }

func (p sampler) word() uint64 {
	if numbers := notable(); p.IntN(3) == 0 {
		return numbers[p.IntN(len(numbers))]
	}
	return p.Uint64()
}

func (p sampler) fill(words []uint64) {
	for i := range words {
		words[i] = p.word()
	}
}

// samples are blocks with states to compress them into: plain ones, then all
// that have a single bit, then those that p makes.
func samples(p sampler, made int, see func(s [8]uint64, m [16]uint64)) {
	var s [8]uint64
	var m [16]uint64
	see(s, m)
	see(roots.Begin(), m)
	for i := range 64 * (len(s) + len(m)) {
		var all [24]uint64
		all[i/64] = 1 << (i % 64)
		see([8]uint64(all[:8]), [16]uint64(all[8:]))
	}
	for i := range s {
		s[i] = math.MaxUint64
	}
	see(s, m)
	for i := range m {
		m[i] = math.MaxUint64
	}
	see(s, m)
	see([8]uint64{}, m)
	for range made {
		p.fill(s[:])
		p.fill(m[:])
		see(s, m)
	}
}

// encoded are the bytes of words in big-endian order.
func encoded(words []uint64) []byte {
	var b []byte
	for _, x := range words {
		b = binary.BigEndian.AppendUint64(b, x)
	}
	return b
}

// rotated is x rotated right by n bits, bit by bit.
func rotated(x uint64, n int) uint64 {
	up := ((-n)%64 + 64) % 64
	turned := uint64(0)
	for i := range 64 {
		turned |= x >> i & 1 << ((i + up) % 64)
	}
	return turned
}

func TestP701Rotr(t *testing.T) {
	counts := []int{math.MinInt, math.MinInt + 1, math.MinInt + 63, math.MinInt + 64, math.MaxInt, math.MaxInt - 1, math.MaxInt - 62, math.MaxInt - 63,
		math.MinInt32, math.MinInt32 - 1, math.MaxInt32, 1 << 32, 1<<32 + 1, -1<<32 - 1, 255, 256, 257, -255, -256, -257}
	for n := -200; n <= 200; n++ {
		counts = append(counts, n)
	}
	for _, n := range counts {
		for _, x := range notable() {
			if got, want := press.Rotr(x, n), rotated(x, n); got != want {
				t.Fatalf("Rotr of %x by %d: %x, want %x", x, n, got, want)
			}
		}
	}
}

func TestP701RotrByHand(t *testing.T) {
	for _, c := range []struct {
		x    uint64
		n    int
		want uint64
	}{
		{1, 1, 1 << 63},
		{1, 0, 1},
		{1, 63, 2},
		{1, 64, 1},
		{1, 65, 1 << 63},
		{1, -1, 2},
		{1, -63, 1 << 63},
		{1, -64, 1},
		{1, math.MinInt, 1},
		{1, math.MaxInt, 2},
		{0x0123456789abcdef, 8, 0xef0123456789abcd},
		{0x0123456789abcdef, -8, 0x23456789abcdef01},
	} {
		if got := press.Rotr(c.x, c.n); got != c.want {
			t.Errorf("Rotr of %x by %d: %x, want %x", c.x, c.n, got, c.want)
		}
	}
}

func TestP701ChAndMajByHand(t *testing.T) {
	// The bits of 0xf0, 0xcc and 0xaa go through all eight combinations.
	if got := press.Ch(0xf0, 0xcc, 0xaa); got != 0xca {
		t.Errorf("Ch: %x, want ca", got)
	}
	if got := press.Maj(0xf0, 0xcc, 0xaa); got != 0xe8 {
		t.Errorf("Maj: %x, want e8", got)
	}
}

func TestP701ChAndMaj(t *testing.T) {
	p := newSampler(1)
	for range 2000 {
		x, y, z := p.word(), p.word(), p.word()
		chosen, most := uint64(0), uint64(0)
		for i := range 64 {
			bx, by, bz := x>>i&1, y>>i&1, z>>i&1
			if bx == 1 {
				chosen |= by << i
			} else {
				chosen |= bz << i
			}
			most |= (bx + by + bz) / 2 << i
		}
		if got := press.Ch(x, y, z); got != chosen {
			t.Fatalf("Ch of %x, %x, %x: %x, want %x", x, y, z, got, chosen)
		}
		if got := press.Maj(x, y, z); got != most {
			t.Fatalf("Maj of %x, %x, %x: %x, want %x", x, y, z, got, most)
		}
	}
}

func TestP701Words(t *testing.T) {
	b := make([]byte, 128)
	for i := range b {
		b[i] = byte(128 + i)
	}
	m, ok := press.Words(b)
	if !ok || m[0] != 0x8081828384858687 || m[1] != 0x88898a8b8c8d8e8f || m[15] != 0xf8f9fafbfcfdfeff {
		t.Errorf("Words of ascending bytes: %x, %v", m, ok)
	}
	see := func(_ [8]uint64, want [16]uint64) {
		if got, ok := press.Words(encoded(want[:])); !ok || got != want {
			t.Fatalf("Words: %x, %v, want %x", got, ok, want)
		}
	}
	samples(newSampler(2), 200, see)
}

func TestP701WordsOfAnotherLength(t *testing.T) {
	full := bytes.Repeat([]byte{255}, 1024)
	for n := range len(full) + 1 {
		m, ok := press.Words(full[:n])
		if ok != (n == 128) {
			t.Errorf("Words of %d bytes: %v", n, ok)
		}
		if !ok && m != [16]uint64{} {
			t.Errorf("Words of %d bytes: %x beside false", n, m)
		}
	}
	if m, ok := press.Words(nil); ok || m != [16]uint64{} {
		t.Errorf("Words of nil: %x, %v", m, ok)
	}
}

func TestP701WordsLeavesItsArgument(t *testing.T) {
	whole := bytes.Repeat([]byte{1, 2, 3, 4, 5}, 60)
	kept := bytes.Clone(whole)
	for _, n := range []int{0, 127, 128, 129} {
		m, _ := press.Words(whole[:n])
		clear(m[:])
		if !bytes.Equal(whole, kept) {
			t.Fatalf("Words of %d bytes changed them or what comes after them", n)
		}
	}
}

// number is x as a number that sums do not wrap.
func number(x uint64) *big.Int { return new(big.Int).SetUint64(x) }

// sum is the sum of words modulo 2^64.
func sum(words ...uint64) uint64 {
	all := new(big.Int)
	for _, x := range words {
		all.Add(all, number(x))
	}
	return all.And(all, number(math.MaxUint64)).Uint64()
}

// shifted is x divided by 2^n, rounded down.
func shifted(x uint64, n uint) uint64 { return new(big.Int).Rsh(number(x), n).Uint64() }

func TestP701Schedule(t *testing.T) {
	see := func(_ [8]uint64, m [16]uint64) {
		w := press.Schedule(m)
		if [16]uint64(w[:16]) != m {
			t.Fatalf("Schedule of %x begins with %x", m, w[:16])
		}
		for i := 16; i < 80; i++ {
			x, y := w[i-15], w[i-2]
			s0 := rotated(x, 1) ^ rotated(x, 8) ^ shifted(x, 7)
			s1 := rotated(y, 19) ^ rotated(y, 61) ^ shifted(y, 6)
			if want := sum(s1, w[i-7], s0, w[i-16]); w[i] != want {
				t.Fatalf("Schedule of %x at %d: %x, want %x", m, i, w[i], want)
			}
		}
	}
	samples(newSampler(3), 100, see)
}

func TestP701ScheduleByHand(t *testing.T) {
	// Each element of the block alone, in the first number that it reaches.
	for _, c := range []struct {
		from, to int
		want     uint64
	}{
		{0, 16, 1},
		{1, 16, 1<<63 | 1<<56},
		{1, 17, 1},
		{9, 16, 1},
		{14, 16, 1<<45 | 1<<3},
		{15, 17, 1<<45 | 1<<3},
		{15, 22, 1},
	} {
		var m [16]uint64
		m[c.from] = 1
		if w := press.Schedule(m); w[c.to] != c.want {
			t.Errorf("Schedule of 1 at %d, at %d: %x, want %x", c.from, c.to, w[c.to], c.want)
		}
	}
	var m [16]uint64
	if w := press.Schedule(m); w != [80]uint64{} {
		t.Errorf("Schedule of zeros: %x", w)
	}
	for i := range m {
		m[i] = math.MaxUint64
	}
	// The shifts leave s0 and s1 of all ones with seven and six of them
	// missing: 2^57 - 1 + 2^58 - 1 + 2 * (2^64 - 1), modulo 2^64.
	if w := press.Schedule(m); w[16] != 1<<57+1<<58-4 {
		t.Errorf("Schedule of ones at 16: %x", w[16])
	}
}

// compressed is the state after the standard library compresses m into s.
func compressed(t *testing.T, s [8]uint64, m [16]uint64) [8]uint64 {
	t.Helper()
	digest := sha512.New()
	saved, err := digest.(encoding.BinaryMarshaler).MarshalBinary()
	if err != nil {
		t.Fatal(err)
	}
	const magic = 4
	copy(saved[magic:], encoded(s[:]))
	if err := digest.(encoding.BinaryUnmarshaler).UnmarshalBinary(saved); err != nil {
		t.Fatal(err)
	}
	digest.Write(encoded(m[:]))
	saved, err = digest.(encoding.BinaryMarshaler).MarshalBinary()
	if err != nil {
		t.Fatal(err)
	}
	var next [8]uint64
	for i := range next {
		next[i] = binary.BigEndian.Uint64(saved[magic+8*i:])
	}
	return next
}

func TestP702Step(t *testing.T) {
	see := func(s [8]uint64, m [16]uint64) {
		want := compressed(t, s, m)
		if got := press.Step(s, m); got != want {
			t.Fatalf("Step of %x and %x: %x, want %x", s, m, got, want)
		}
	}
	samples(newSampler(4), 1000, see)
}

func TestP702StepOfKnownBlocks(t *testing.T) {
	// FIPS 180-4: the digest of "abc", which is one block.
	abc := [16]uint64{0: 0x6162638000000000, 15: 24}
	want := [8]uint64{
		0xddaf35a193617aba, 0xcc417349ae204131, 0x12e6fa4e89a97ea2, 0x0a9eeee64b55d39a,
		0x2192992a274fc1a8, 0x36ba3c23a3feebbd, 0x454d4423643ce80e, 0x2a9ac94fa54ca49f,
	}
	if got := press.Step(roots.Begin(), abc); got != want {
		t.Errorf("Step of abc: %x, want %x", got, want)
	}
	// The digest of no bytes.
	none := [16]uint64{0: 1 << 63}
	want = [8]uint64{
		0xcf83e1357eefb8bd, 0xf1542850d66d8007, 0xd620e4050b5715dc, 0x83f4a921d36ce9ce,
		0x47d0d13c5d85f2b0, 0xff8318d2877eec2f, 0x63b931bd47417a81, 0xa538327af927da3e,
	}
	if got := press.Step(roots.Begin(), none); got != want {
		t.Errorf("Step of no bytes: %x, want %x", got, want)
	}
}

func TestP702StepOfSeveralBlocks(t *testing.T) {
	p := newSampler(5)
	message := make([]byte, 128*20+111)
	for i := range message {
		message[i] = byte(p.Uint32())
	}
	padded := append(bytes.Clone(message), 128)
	padded = append(padded, make([]byte, 8)...)
	padded = binary.BigEndian.AppendUint64(padded, uint64(8*len(message)))
	s := roots.Begin()
	for block := range 21 {
		m, ok := press.Words(padded[128*block : 128*(block+1)])
		if !ok {
			t.Fatal("Words of a block: false")
		}
		s = press.Step(s, m)
	}
	if got, want := encoded(s[:]), sha512.Sum512(message); !bytes.Equal(got, want[:]) {
		t.Errorf("the state after all blocks: %x, want %x", got, want)
	}
}

func TestP702StepWith(t *testing.T) {
	k := roots.Rounds()
	see := func(s [8]uint64, m [16]uint64) {
		if got, want := press.StepWith(k, s, m), compressed(t, s, m); got != want {
			t.Fatalf("StepWith of %x and %x: %x, want %x", s, m, got, want)
		}
	}
	samples(newSampler(6), 1000, see)
	// What is added to the schedule can as well be added to the constants.
	p := newSampler(7)
	for range 100 {
		var s [8]uint64
		var m [16]uint64
		p.fill(s[:])
		p.fill(m[:])
		var both [80]uint64
		for i, x := range press.Schedule(m) {
			both[i], _ = bits.Add64(k[i], x, 0)
		}
		if got, want := press.StepWith(both, s, [16]uint64{}), press.Step(s, m); got != want {
			t.Fatalf("StepWith of constants beside the block %x: %x, want %x", m, got, want)
		}
	}
}

func BenchmarkStep(b *testing.B) {
	s, m := roots.Begin(), [16]uint64{}
	for b.Loop() {
		s = press.Step(s, m)
	}
}

func BenchmarkStepWith(b *testing.B) {
	k, s, m := roots.Rounds(), roots.Begin(), [16]uint64{}
	for b.Loop() {
		s = press.StepWith(k, s, m)
	}
}
