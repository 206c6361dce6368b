package roots_test

import (
	"math"
	"math/big"
	"math/rand/v2"
	"slices"
	"testing"

	"bootjack/roots"
)

// firstPrimes is the first n prime numbers, by striking out multiples.
func firstPrimes(n int) []uint64 {
	struck := make([]bool, 1000)
	var primes []uint64
	for i := 2; len(primes) < n; i++ {
		if struck[i] {
			continue
		}
		primes = append(primes, uint64(i))
		for j := i * i; j < len(struck); j += i {
			struck[j] = true
		}
	}
	return primes
}

// raised is x multiplied degree times.
func raised(x *big.Int, degree int) *big.Int {
	return new(big.Int).Exp(x, big.NewInt(int64(degree)), nil)
}

// fraction is what the chapter says of the root of p: the lowest 64 bits of
// the root of p multiplied by 2^64 and rounded down.
func fraction(p uint64, degree int) uint64 {
	all := new(big.Int).SetUint64(p)
	all.Lsh(all, uint(64*degree))
	low, high := new(big.Int), new(big.Int).Lsh(big.NewInt(1), 81)
	for {
		middle := new(big.Int).Add(low, high)
		middle.Rsh(middle, 1)
		if middle.Cmp(low) == 0 {
			break
		}
		if raised(middle, degree).Cmp(all) <= 0 {
			low = middle
		} else {
			high = middle
		}
	}
	return new(big.Int).And(low, new(big.Int).SetUint64(math.MaxUint64)).Uint64()
}

// wantRoots fails the test unless Square and Cube of p, which is below 2^32,
// are what the chapter says.
func wantRoots(t *testing.T, p uint64) {
	t.Helper()
	if got, want := roots.Square(p), fraction(p, 2); got != want {
		t.Errorf("Square of %d: %x, want %x", p, got, want)
	}
	if got, want := roots.Cube(p), fraction(p, 3); got != want {
		t.Errorf("Cube of %d: %x, want %x", p, got, want)
	}
}

func TestP601Primes(t *testing.T) {
	primes := firstPrimes(100)
	if primes[0] != 2 || primes[1] != 3 || primes[79] != 409 || primes[99] != 541 {
		t.Fatalf("the test's own primes: %v", primes)
	}
	for n := range 101 {
		if got := roots.Primes(n); !slices.Equal(got, primes[:n]) {
			t.Errorf("Primes of %d: %v, want %v", n, got, primes[:n])
		}
	}
}

func TestP601PrimesIsLimited(t *testing.T) {
	for _, n := range []int{-1, -2, -100, -101, math.MinInt32, math.MinInt} {
		if got := roots.Primes(n); len(got) != 0 {
			t.Errorf("Primes of %d: %v, want none", n, got)
		}
	}
	for _, n := range []int{101, 102, 200, 1 << 16, math.MaxInt32, 1 << 32, math.MaxInt} {
		if got := roots.Primes(n); !slices.Equal(got, firstPrimes(100)) {
			t.Errorf("Primes of %d: %v, want the first 100", n, got)
		}
	}
}

func TestP601PrimesIsNew(t *testing.T) {
	for _, n := range []int{1, 8, 80, 100} {
		first, second := roots.Primes(n), roots.Primes(n)
		clear(first[:cap(first)])
		_ = append(first, 1)
		for _, got := range [][]uint64{second, roots.Primes(n)} {
			if !slices.Equal(got, firstPrimes(n)) {
				t.Errorf("writing to one result of Primes changed another: %v", got)
			}
		}
	}
}

func TestP601KnownRoots(t *testing.T) {
	for p, want := range map[uint64]uint64{
		2:  0x6a09e667f3bcc908,
		3:  0xbb67ae8584caa73b,
		5:  0x3c6ef372fe94f82b,
		23: 0xcbbb9d5dc1059ed8, // from here on: of SHA-384
		53: 0x47b5481dbefa4fa4,
	} {
		if got := roots.Square(p); got != want {
			t.Errorf("Square of %d: %x, want %x", p, got, want)
		}
	}
	for p, want := range map[uint64]uint64{
		2:   0x428a2f98d728ae22,
		3:   0x7137449123ef65cd,
		5:   0xb5c0fbcfec4d3b2f,
		409: 0x6c44198c4a475817,
	} {
		if got := roots.Cube(p); got != want {
			t.Errorf("Cube of %d: %x, want %x", p, got, want)
		}
	}
}

func TestP601RootsOfSmallNumbers(t *testing.T) {
	for p := range uint64(2000) {
		wantRoots(t, p)
	}
}

func TestP601RootsOfPowers(t *testing.T) {
	for _, x := range []uint64{1, 2, 3, 10, 255, 256, 257, 1000, 1023, 1024, 1624, 1625, 32767, 32768, 65534, 65535} {
		square := x * x
		if got := roots.Square(square); got != 0 {
			t.Errorf("Square of %d: %x, want 0", square, got)
		}
		wantRoots(t, square-1)
		wantRoots(t, square)
		wantRoots(t, square+1)
	}
	for x := uint64(1); x <= 1625; x += 7 {
		cube := x * x * x
		if got := roots.Cube(cube); got != 0 {
			t.Errorf("Cube of %d: %x, want 0", cube, got)
		}
		wantRoots(t, cube-1)
		wantRoots(t, cube)
		wantRoots(t, cube+1)
	}
}

func TestP601RootsOfManyNumbers(t *testing.T) {
	p := rand.New(rand.NewPCG(6, 1))
	for range 2000 {
		wantRoots(t, uint64(p.Uint32()))
		wantRoots(t, uint64(p.Uint32()>>p.UintN(32)))
	}
	for size := range 32 {
		wantRoots(t, 1<<size)
		wantRoots(t, 1<<(size+1)-1)
	}
	for back := range uint64(100) {
		wantRoots(t, math.MaxUint32-back)
	}
}

func TestP601RootsOfGreatNumbers(t *testing.T) {
	great := []uint64{1<<32 + 1, 1<<32 + 2, 1<<32 + 3, 1<<33 - 1, 1<<48 + 2, 1<<63 + 2, math.MaxInt64, math.MaxUint64 - 1, math.MaxUint64}
	for size := 32; size < 64; size++ {
		great = append(great, 1<<size, 1<<size+5)
	}
	p := rand.New(rand.NewPCG(6, 2))
	for range 100 {
		great = append(great, p.Uint64()|1<<(32+p.UintN(32)))
	}
	for _, x := range great {
		if got := roots.Square(x); got != 0 {
			t.Errorf("Square of %d: %x, want 0", x, got)
		}
		if got := roots.Cube(x); got != 0 {
			t.Errorf("Cube of %d: %x, want 0", x, got)
		}
	}
}

func TestP601Begin(t *testing.T) {
	want := [8]uint64{
		0x6a09e667f3bcc908, 0xbb67ae8584caa73b, 0x3c6ef372fe94f82b, 0xa54ff53a5f1d36f1,
		0x510e527fade682d1, 0x9b05688c2b3e6c1f, 0x1f83d9abfb41bd6b, 0x5be0cd19137e2179,
	}
	for range 2 {
		if got := roots.Begin(); got != want {
			t.Errorf("Begin: %x, want %x", got, want)
		}
	}
	for i, p := range firstPrimes(8) {
		if got := roots.Square(p); got != want[i] {
			t.Errorf("Square of %d: %x, want %x", p, got, want[i])
		}
	}
}

func TestP601Rounds(t *testing.T) {
	for range 2 {
		rounds := roots.Rounds()
		for i, p := range firstPrimes(80) {
			if want := fraction(p, 3); rounds[i] != want || roots.Cube(p) != want {
				t.Errorf("Rounds at %d: %x, Cube of %d: %x, want %x", i, rounds[i], p, roots.Cube(p), want)
			}
		}
	}
	// Some as they are printed in FIPS 180-4.
	rounds := roots.Rounds()
	for i, want := range map[int]uint64{
		0: 0x428a2f98d728ae22, 4: 0x3956c25bf348b538, 15: 0xc19bf174cf692694,
		16: 0xe49b69c19ef14ad2, 31: 0x142929670a0e6e70, 40: 0xa2bfe8a14cf10364,
		63: 0xc67178f2e372532b, 64: 0xca273eceea26619c, 79: 0x6c44198c4a475817,
	} {
		if rounds[i] != want {
			t.Errorf("Rounds at %d: %x, want %x", i, rounds[i], want)
		}
	}
}
