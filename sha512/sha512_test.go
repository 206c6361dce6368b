package sha512_test

import (
	"bytes"
	std "crypto/sha512"
	"encoding"
	"encoding/binary"
	"encoding/hex"
	"hash"
	"math"
	"math/rand/v2"
	"slices"
	"testing"

	"bootjack/roots"
	"bootjack/sha512"
)

const (
	midLen = 200
	restAt = 72
)

// sampler makes bytes.
type sampler struct{ *rand.Rand }

func newSampler(seed uint64) sampler { return sampler{rand.New(rand.NewPCG(8, seed))} }

func (p sampler) bytes(n int) []byte {
	b := make([]byte, n)
	for i := range b {
		b[i] = byte(p.Uint32())
	}
	return b
}

// mid is a state: the words, the count, then the bytes of the incomplete block.
func mid(words [8]uint64, count uint64, rest []byte) []byte {
	var b []byte
	for _, x := range words {
		b = binary.BigEndian.AppendUint64(b, x)
	}
	b = binary.BigEndian.AppendUint64(b, count)
	b = append(b, rest...)
	return append(b, make([]byte, midLen-len(b))...)
}

// The standard library's state: a mark, the numbers, the block, the count.
const (
	markLen  = 4
	stdBlock = markLen + 64
	stdCount = stdBlock + 128
)

// stdMid is the state of h as the chapter lays it out.
func stdMid(t *testing.T, h hash.Hash) []byte {
	t.Helper()
	s, err := h.(encoding.BinaryMarshaler).MarshalBinary()
	if err != nil {
		t.Fatal(err)
	}
	return slices.Concat(s[markLen:stdBlock], s[stdCount:], s[stdBlock:stdCount])
}

// stdLoad is the standard library's hash that continues from the state b.
func stdLoad(t *testing.T, b []byte) hash.Hash {
	t.Helper()
	h := std.New()
	s, err := h.(encoding.BinaryMarshaler).MarshalBinary()
	if err != nil {
		t.Fatal(err)
	}
	s = slices.Concat(s[:markLen], b[:64], b[restAt:], b[64:restAt])
	if err := h.(encoding.BinaryUnmarshaler).UnmarshalBinary(s); err != nil {
		t.Fatal(err)
	}
	return h
}

// loaded is the Hash of the state b, which Load must accept.
func loaded(t *testing.T, b []byte) *sha512.Hash {
	t.Helper()
	h, ok := sha512.Load(b)
	if !ok || h == nil {
		t.Fatalf("Load of %x: %v", b, ok)
	}
	return h
}

// wantLike fails the test unless h is a Hash of the bytes that like has.
func wantLike(t *testing.T, h *sha512.Hash, like hash.Hash) {
	t.Helper()
	want := stdMid(t, like)
	if got, count := h.Count(), binary.BigEndian.Uint64(want[64:]); uint64(got) != count {
		t.Fatalf("Count: %d, want %d", got, count)
	}
	if got := h.Mid(); !bytes.Equal(got, want) {
		t.Fatalf("Mid: %x, want %x", got, want)
	}
	if got, want := h.Sum(), like.Sum(nil); !bytes.Equal(got[:], want) {
		t.Fatalf("Sum: %x, want %x", got, want)
	}
}

func TestP801KnownDigests(t *testing.T) {
	for _, c := range []struct{ text, want string }{
		{"", "cf83e1357eefb8bdf1542850d66d8007d620e4050b5715dc83f4a921d36ce9ce" +
			"47d0d13c5d85f2b0ff8318d2877eec2f63b931bd47417a81a538327af927da3e"},
		{"abc", "ddaf35a193617abacc417349ae20413112e6fa4e89a97ea20a9eeee64b55d39a" +
			"2192992a274fc1a836ba3c23a3feebbd454d4423643ce80e2a9ac94fa54ca49f"},
		{"abcdefghbcdefghicdefghijdefghijkefghijklfghijklmghijklmnhijklmnoijklmnopjklmnopqklmnopqrlmnopqrsmnopqrstnopqrstu",
			"8e959b75dae313da8cf4f72814fc143f8f7779c6eb9f7fa17299aeadb6889018" +
				"501d289e4900f7e4331b99dec4b5433ac7d329eeb6dd26545e96e55b874be909"},
		{string(bytes.Repeat([]byte{'a'}, 1000000)),
			"e718483d0ce769644e2e42c7bc15b4638e1f98b13b2044285632a803afa973eb" +
				"de0ff244877ea60a4cb0432ce577c31beb009c5c2c49aa2e4eadb217ad8cc09b"},
	} {
		h := sha512.New()
		h.Write([]byte(c.text))
		for _, got := range [][64]byte{h.Sum(), sha512.Of([]byte(c.text))} {
			if hex.EncodeToString(got[:]) != c.want {
				t.Errorf("digest of %d bytes: %x, want %s", len(c.text), got, c.want)
			}
		}
	}
}

func TestP801EveryLength(t *testing.T) {
	data := newSampler(1).bytes(700)
	slow, like := sha512.New(), std.New()
	for n := range len(data) {
		want := std.Sum512(data[:n])
		fast := sha512.New()
		fast.Write(data[:n])
		wantLike(t, fast, like)
		wantLike(t, slow, like)
		if got := sha512.Of(data[:n]); got != want {
			t.Fatalf("Of %d bytes: %x, want %x", n, got, want)
		}
		slow.Write(data[n : n+1])
		like.Write(data[n : n+1])
	}
}

func TestP801EveryCut(t *testing.T) {
	data := newSampler(2).bytes(386)
	want := std.Sum512(data)
	for first := range len(data) + 1 {
		if got := sha512.Of(data[:first], data[first:]); got != want {
			t.Fatalf("Of bytes cut at %d: %x, want %x", first, got, want)
		}
		h := sha512.New()
		h.Write(data[:first])
		h.Write(data[first:])
		if got := h.Sum(); got != want || h.Count() != len(data) {
			t.Fatalf("Sum of bytes cut at %d: %x, want %x", first, got, want)
		}
	}
}

func TestP801OfJoins(t *testing.T) {
	none := std.Sum512(nil)
	for _, got := range [][64]byte{sha512.Of(), sha512.Of(nil), sha512.Of([]byte{}), sha512.Of(nil, []byte{}, nil), sha512.Of([][]byte(nil)...)} {
		if got != none {
			t.Errorf("Of nothing: %x, want %x", got, none)
		}
	}
	p := newSampler(3)
	for range 300 {
		parts := make([][]byte, p.IntN(8))
		for i := range parts {
			parts[i] = p.bytes([]int{0, 1, p.IntN(10), p.IntN(300), 128, 111, 112}[p.IntN(7)])
		}
		if got, want := sha512.Of(parts...), std.Sum512(slices.Concat(parts...)); got != want {
			t.Fatalf("Of %d parts: %x, want %x", len(parts), got, want)
		}
	}
}

func TestP801WritePlays(t *testing.T) {
	p := newSampler(4)
	for range 100 {
		h, like := sha512.New(), std.New()
		for range p.IntN(20) {
			b := p.bytes([]int{0, 1, 127, 128, 129, 256, p.IntN(10), p.IntN(130), p.IntN(600)}[p.IntN(9)])
			h.Write(b)
			like.Write(b)
			if p.IntN(2) == 0 {
				wantLike(t, h, like)
			}
		}
		wantLike(t, h, like)
	}
}

func TestP801SumChangesNothing(t *testing.T) {
	data := newSampler(5).bytes(400)
	for n := range len(data) {
		h := sha512.New()
		h.Write(data[:n])
		before, first := h.Mid(), h.Sum()
		if after := h.Mid(); !bytes.Equal(after, before) {
			t.Fatalf("Sum of %d bytes changed the state from %x to %x", n, before, after)
		}
		if second := h.Sum(); first != second {
			t.Fatalf("Sum of %d bytes: %x, then %x", n, first, second)
		}
		h.Write(data[n:])
		if got, want := h.Sum(), std.Sum512(data); got != want {
			t.Fatalf("more bytes after Sum of %d: %x, want %x", n, got, want)
		}
	}
}

func TestP801ArgumentsStayAndAreNotKept(t *testing.T) {
	p := newSampler(6)
	for n := range 300 {
		whole := p.bytes(600)
		kept := bytes.Clone(whole)
		h := sha512.New()
		h.Write(whole[:n])
		h.Sum()
		parts := [][]byte{whole[:n], whole[n : n+1], whole[:1]}
		sha512.Of(parts...)
		if !bytes.Equal(whole, kept) {
			t.Fatalf("Write or Of changed %d bytes or what comes after them", n)
		}
		if len(parts) != 3 || len(parts[0]) != n || len(parts[1]) != 1 || len(parts[2]) != 1 {
			t.Fatalf("Of changed its list")
		}
		clear(whole)
		if got, want := h.Sum(), std.Sum512(kept[:n]); got != want {
			t.Fatalf("Sum of %d bytes that were changed later: %x, want %x", n, got, want)
		}
	}
}

func TestP802MidByHand(t *testing.T) {
	begin := roots.Begin()
	if got, want := sha512.New().Mid(), mid(begin, 0, nil); !bytes.Equal(got, want) {
		t.Errorf("Mid of no bytes: %x, want %x", got, want)
	}
	h := sha512.New()
	h.Write([]byte{7, 0, 9})
	if got, want := h.Mid(), mid(begin, 3, []byte{7, 0, 9}); !bytes.Equal(got, want) {
		t.Errorf("Mid of three bytes: %x, want %x", got, want)
	}
	// What an earlier block had is not among the bytes 0.
	h.Write(bytes.Repeat([]byte{255}, 128))
	got := h.Mid()
	if len(got) != midLen || !bytes.Equal(got[64:], append([]byte{0, 0, 0, 0, 0, 0, 0, 131, 255, 255, 255}, make([]byte, 125)...)) {
		t.Errorf("Mid of 131 bytes: %x", got)
	}
}

func TestP802MidIsNew(t *testing.T) {
	for _, n := range []int{0, 5, 127, 128, 200} {
		h := sha512.New()
		h.Write(bytes.Repeat([]byte{3}, n))
		first, second := h.Mid(), h.Mid()
		kept := bytes.Clone(second)
		clear(first[:cap(first)])
		if !bytes.Equal(second, kept) || !bytes.Equal(h.Mid(), kept) {
			t.Errorf("writing to one result of Mid of %d bytes changed another", n)
		}
	}
}

func TestP802LoadContinues(t *testing.T) {
	data := newSampler(7).bytes(600)
	for n := range 400 {
		h, like := sha512.New(), std.New()
		h.Write(data[:n])
		like.Write(data[:n])
		state := h.Mid()
		g := loaded(t, state)
		wantLike(t, g, like)
		// The two have nothing in common.
		h.Write([]byte{1, 2, 3})
		clear(state)
		wantLike(t, g, like)
		g.Write(data[n:])
		like.Write(data[n:])
		wantLike(t, g, like)
		if h.Count() != n+3 {
			t.Fatalf("Write to a loaded Hash changed the Count of another: %d", h.Count())
		}
	}
}

func TestP802LoadOfAnyState(t *testing.T) {
	p := newSampler(8)
	var ones [8]uint64
	for i := range ones {
		ones[i] = math.MaxUint64
	}
	states := [][8]uint64{{}, ones, roots.Begin()}
	for i := range 8 * 64 {
		var single [8]uint64
		single[i/64] = 1 << (i % 64)
		states = append(states, single)
	}
	for _, words := range states {
		for _, count := range []uint64{0, 1, 100, 127, 128, 130, 1 << 20, 1<<31 + 5, 1<<32 + 127, 1<<59 + 111, 1<<60 - 1, 1 << 60} {
			b := mid(words, count, p.bytes(int(count%128)))
			h, like := loaded(t, b), stdLoad(t, b)
			if !bytes.Equal(h.Mid(), b) {
				t.Fatalf("Mid of the loaded state %x: %x", b, h.Mid())
			}
			wantLike(t, h, like)
			more := p.bytes(p.IntN(300))
			h.Write(more)
			like.Write(more)
			wantLike(t, h, like)
		}
	}
}

func TestP802LoadOfGreatCounts(t *testing.T) {
	refused := []uint64{1<<60 + 1, 1<<60 + 127, 1<<60 + 128, 1<<60 + 1<<32, 1<<61 - 1, math.MaxInt64, math.MaxUint64, math.MaxUint64 - 127}
	for size := 61; size < 64; size++ {
		refused = append(refused, 1<<size, 1<<size+1, 1<<size+1<<59)
	}
	for _, count := range refused {
		for _, rest := range [][]byte{nil, {1}, bytes.Repeat([]byte{1}, int(count%128))} {
			if h, ok := sha512.Load(mid(roots.Begin(), count, rest)); ok || h != nil {
				t.Errorf("Load of %d bytes: %v", count, ok)
			}
		}
	}
	for _, count := range []uint64{1 << 60, 1<<60 - 1, 1<<60 - 128, 1<<59 + 1} {
		if h := loaded(t, mid(roots.Begin(), count, nil)); uint64(h.Count()) != count {
			t.Errorf("Count: %d, want %d", h.Count(), count)
		}
	}
	// More bytes may follow the most that Load accepts.
	h := loaded(t, mid(roots.Begin(), 1<<60, nil))
	h.Write([]byte{1})
	if h.Count() != 1<<60+1 {
		t.Errorf("Count: %d, want 2^60 + 1", h.Count())
	}
	if g, ok := sha512.Load(h.Mid()); ok || g != nil {
		t.Errorf("Load of 2^60 + 1 bytes: %v", ok)
	}
}

func TestP802LoadOfBytesAfterTheBlock(t *testing.T) {
	for count := range uint64(256) {
		held := int(count % 128)
		for i := range 128 {
			for _, x := range []byte{1, 128, 255} {
				b := mid(roots.Begin(), count, nil)
				b[restAt+i] = x
				h, ok := sha512.Load(b)
				if ok != (i < held) || (h != nil) != ok {
					t.Fatalf("Load of %d bytes with %d at %d: %v", count, x, i, ok)
				}
				if ok && !bytes.Equal(h.Mid(), b) {
					t.Fatalf("Mid after Load of %d bytes with %d at %d: %x", count, x, i, h.Mid())
				}
			}
		}
	}
}

func TestP802LoadOfAnotherLength(t *testing.T) {
	whole := make([]byte, 1000)
	for n := range whole {
		if h, ok := sha512.Load(whole[:n]); ok != (n == midLen) || (h != nil) != ok {
			t.Errorf("Load of %d bytes: %v", n, ok)
		}
	}
	if h, ok := sha512.Load(nil); ok || h != nil {
		t.Errorf("Load of nil: %v", ok)
	}
}

func TestP802LoadLeavesItsArgument(t *testing.T) {
	whole := newSampler(9).bytes(500)
	copy(whole, mid(roots.Begin(), 127, bytes.Repeat([]byte{6}, 127)))
	kept := bytes.Clone(whole)
	h := loaded(t, whole[:midLen])
	h.Write(whole[300:])
	h.Mid()
	h.Sum()
	sha512.Load(whole)
	if !bytes.Equal(whole, kept) {
		t.Error("Load, or what was done with its result, changed its argument or what comes after it")
	}
}

func TestP802ZeroHash(t *testing.T) {
	var counted, summed, saved, written sha512.Hash
	if got := counted.Count(); got != 0 {
		t.Errorf("Count of the zero Hash: %d", got)
	}
	if got, want := summed.Sum(), std.Sum512(nil); got != want {
		t.Errorf("Sum of the zero Hash: %x, want %x", got, want)
	}
	if got, want := saved.Mid(), mid(roots.Begin(), 0, nil); !bytes.Equal(got, want) {
		t.Errorf("Mid of the zero Hash: %x, want %x", got, want)
	}
	written.Write(nil)
	for _, h := range []*sha512.Hash{&counted, &summed, &saved, &written} {
		wantLike(t, h, std.New())
	}
	data := newSampler(10).bytes(300)
	for n := range data {
		var h sha512.Hash
		like := std.New()
		for range 2 {
			h.Write(data[:n])
			like.Write(data[:n])
			wantLike(t, &h, like)
		}
	}
}

func TestP802LoadedZerosAreNoZeroHash(t *testing.T) {
	zeros := make([]byte, midLen)
	for _, n := range []int{0, 1, 127, 128, 300} {
		h, like := loaded(t, zeros), stdLoad(t, zeros)
		h.Write(make([]byte, n))
		like.Write(make([]byte, n))
		wantLike(t, h, like)
	}
}

func TestP802NilHash(t *testing.T) {
	var h *sha512.Hash
	for _, n := range []int{0, 1, 127, 128, 1000} {
		h.Write(make([]byte, n))
		wantLike(t, h, std.New())
	}
}

func BenchmarkOf(b *testing.B) {
	data := make([]byte, 8192)
	for b.Loop() {
		sha512.Of(data)
	}
}

func BenchmarkWriteOfSingleBytes(b *testing.B) {
	h, data := sha512.New(), []byte{1}
	for b.Loop() {
		h.Write(data)
	}
}
