package region_test

import (
	"bytes"
	"math"
	"math/rand/v2"
	"testing"

	"bootjack/api"
	"bootjack/flash"
	"bootjack/region"
)

// fill is n bytes of the value x.
func fill(x byte, n int) []byte { return bytes.Repeat([]byte{x}, n) }

// join is all parts in one slice.
func join(parts ...[]byte) []byte { return bytes.Join(parts, nil) }

// must fails the test unless e is OK.
func must(t *testing.T, e api.Errno) {
	t.Helper()
	if e != api.OK {
		t.Fatalf("error %d, want OK", e)
	}
}

// wantErr fails the test unless e is want.
func wantErr(t *testing.T, what string, e, want api.Errno) {
	t.Helper()
	if e != want {
		t.Errorf("%s: error %d, want %d", what, e, want)
	}
}

// wantAll fails the test unless the flash has these bytes, and no others.
func wantAll(t *testing.T, f *flash.Flash, want []byte) {
	t.Helper()
	if got := f.Peek(0, f.Size()); !bytes.Equal(got, want) {
		t.Error("the content of the flash is another")
	}
}

// wantSteps fails the test unless the flash has performed this many steps.
func wantSteps(t *testing.T, f *flash.Flash, want int) {
	t.Helper()
	if got := f.Steps(); got != want {
		t.Errorf("%d steps, want %d", got, want)
	}
}

// of is the region of these sectors, which exist.
func of(t *testing.T, f *flash.Flash, first, count int) region.Region {
	t.Helper()
	r, e := region.Of(f, first, count)
	must(t, e)
	return r
}

// part is the region of these sectors of r, which exist.
func part(t *testing.T, r region.Region, first, count int) region.Region {
	t.Helper()
	p, e := r.Part(first, count)
	must(t, e)
	return p
}

// pattern fills the flash with bytes by which places can be told apart, and
// returns them.
func pattern(t *testing.T, f *flash.Flash) []byte {
	t.Helper()
	b := make([]byte, f.Size())
	for i := range b {
		b[i] = byte(i*7 + i>>10*31 + i>>8)
	}
	must(t, f.Spoil(0, b))
	return b
}

// cut turns the power of the flash off by a step that changes nothing.
func cut(t *testing.T, f *flash.Flash) {
	t.Helper()
	was := f.Peek(0, 8)
	f.Arm(0, nil)
	wantErr(t, "the interrupted step", f.Program(0, was), api.ErrCut)
	if !f.Off() {
		t.Fatal("power is on")
	}
}

// wantEmpty fails the test unless r is the zero Region.
func wantEmpty(t *testing.T, r region.Region) {
	t.Helper()
	if r != (region.Region{}) {
		t.Error("a region comes with an error")
	}
}

// sectors lists which sectors of five are asked for, and whether they are a
// region.
var sectors = []struct {
	first, count int
	are          bool
}{
	{0, 1, true}, {0, 4, true}, {0, 5, true}, {1, 4, true}, {2, 3, true}, {2, 1, true}, {4, 1, true},
	{0, 0, false}, {2, 0, false}, {5, 0, false}, {0, -1, false}, {5, -1, false}, {5, -5, false},
	{0, 6, false}, {1, 5, false}, {4, 2, false}, {5, 1, false}, {6, 1, false},
	{-1, 1, false}, {-1, 2, false}, {-1, 6, false}, {-5, 5, false}, {-1, 0, false}, {6, -1, false},
	{math.MaxInt, 1, false}, {1, math.MaxInt, false}, {math.MaxInt, math.MaxInt, false},
	{5, math.MaxInt, false}, {math.MinInt, 1, false}, {math.MinInt, math.MaxInt, false},
	{math.MinInt, math.MinInt, false}, {0, math.MinInt, false}, {math.MaxInt, math.MinInt, false},
	{1 << 54, 1, false}, {0, 1<<54 + 1, false}, {-1 << 54, 1, false}, {1 << 62, 1 << 62, false},
}

// wantSectors fails the test unless r and e are what is told of the sectors of
// a flash of which content is all.
func wantSectors(t *testing.T, r region.Region, e api.Errno, are bool, content []byte) {
	t.Helper()
	if !are {
		wantErr(t, "no such sectors", e, api.ErrArg)
		wantEmpty(t, r)
		return
	}
	must(t, e)
	if r.Size() != len(content) {
		t.Errorf("%d bytes, want %d", r.Size(), len(content))
	}
	b, e := r.Read(0, len(content))
	must(t, e)
	if !bytes.Equal(b, content) {
		t.Error("the region has the bytes of other sectors")
	}
}

func TestP301Of(t *testing.T) {
	f := flash.New(5)
	content := pattern(t, f)
	for _, x := range sectors {
		r, e := region.Of(f, x.first, x.count)
		var want []byte
		if x.are {
			want = content[1024*x.first : 1024*(x.first+x.count)]
		}
		wantSectors(t, r, e, x.are, want)
	}
	wantSteps(t, f, 0)
}

func TestP301OfWholeFlash(t *testing.T) {
	for _, n := range []int{1, 2, 255, 256} {
		f := flash.New(n)
		if size := of(t, f, 0, n).Size(); size != 1024*n {
			t.Errorf("a flash of %d sectors: %d bytes", n, size)
		}
		if size := of(t, f, n-1, 1).Size(); size != 1024 {
			t.Errorf("the last of %d sectors: %d bytes", n, size)
		}
		for _, x := range [][2]int{{0, n + 1}, {1, n}, {n, 1}} {
			r, e := region.Of(f, x[0], x[1])
			wantErr(t, "Of", e, api.ErrArg)
			wantEmpty(t, r)
		}
	}
}

func TestP301OfNoFlash(t *testing.T) {
	for _, f := range []*flash.Flash{nil, {}} {
		for _, x := range sectors {
			r, e := region.Of(f, x.first, x.count)
			wantErr(t, "Of no flash", e, api.ErrArg)
			wantEmpty(t, r)
		}
	}
}

func TestP301OfWithoutPower(t *testing.T) {
	f := flash.New(5)
	content := pattern(t, f)
	cut(t, f)
	for _, x := range sectors {
		r, e := region.Of(f, x.first, x.count)
		if !x.are {
			wantErr(t, "no such sectors", e, api.ErrArg)
			continue
		}
		must(t, e)
		if r.Size() != 1024*x.count {
			t.Errorf("%d bytes, want %d", r.Size(), 1024*x.count)
		}
	}
	r := of(t, f, 2, 2)
	_, e := r.Read(0, 1)
	wantErr(t, "Read", e, api.ErrCut)
	f.Boot()
	wantSectors(t, r, api.OK, true, content[2048:4096])
}

// ranges lists offsets and numbers of bytes, and whether the bytes lie within
// a region of two sectors.
var ranges = []struct {
	at, n int
	in    bool
}{
	{0, 0, true}, {0, 1, true}, {1, 1, true}, {3, 5, true}, {0, 2048, true}, {1024, 1024, true},
	{1, 2047, true}, {2047, 1, true}, {2048, 0, true}, {1020, 8, true},
	{1, 2048, false}, {0, 2049, false}, {2047, 2, false}, {2048, 1, false}, {2040, 16, false},
	{2048, 8, false}, {2056, 8, false}, {2049, 0, false}, {2056, 0, false}, {3072, 1024, false},
	{-1, 0, false}, {-8, 0, false}, {-1, 1, false}, {-8, 8, false}, {-8, 16, false},
	{-1024, 1024, false}, {-1024, 0, false}, {0, 3072, false},
	{0, -1, false}, {8, -8, false}, {2048, -1, false}, {2056, -8, false}, {-1, -1, false},
	{math.MaxInt, 0, false}, {math.MaxInt, 1, false}, {0, math.MaxInt, false},
	{5, math.MaxInt, false}, {2048, math.MaxInt, false}, {math.MaxInt - 1023, 8, false},
	{math.MaxInt, math.MaxInt, false}, {math.MinInt, 0, false}, {math.MaxInt - 7, 8, false},
	{math.MinInt, 8, false}, {math.MinInt, math.MinInt, false},
	{math.MinInt, math.MaxInt, false}, {0, math.MinInt, false},
}

func TestP301Read(t *testing.T) {
	f := flash.New(5)
	content := pattern(t, f)
	for first := range 4 {
		r := of(t, f, first, 2)
		for _, x := range ranges {
			want, wantE := []byte(nil), api.ErrRange
			if x.in {
				from := 1024*first + x.at
				want, wantE = content[from:from+x.n], api.OK
			}
			b, e := r.Read(x.at, x.n)
			if e != wantE || !bytes.Equal(b, want) {
				t.Errorf("Read(%d, %d): %d bytes, error %d, want %d", x.at, x.n, len(b), e, wantE)
			}
		}
	}
	wantSteps(t, f, 0)
}

func TestP301ReadIsNew(t *testing.T) {
	f := flash.New(3)
	content := pattern(t, f)
	r := of(t, f, 1, 1)
	b, e := r.Read(0, 1024)
	must(t, e)
	clear(b[:cap(b)])
	wantAll(t, f, content)
	b, e = r.Read(0, 1024)
	must(t, e)
	must(t, r.Erase(0))
	if !bytes.Equal(b, content[1024:2048]) {
		t.Error("what was read follows the flash")
	}
}

func TestP301Program(t *testing.T) {
	f := flash.New(5)
	r := of(t, f, 2, 2)
	first, middle, last := fill(1, 8), join(fill(2, 8), fill(3, 8)), fill(4, 8)
	must(t, r.Program(0, first))
	wantSteps(t, f, 1)
	must(t, r.Program(1016, middle))
	wantSteps(t, f, 3)
	must(t, r.Program(2040, last))
	must(t, r.Program(2048, nil))
	must(t, r.Program(0, []byte{}))
	wantSteps(t, f, 4)
	want := join(fill(255, 2048), first, fill(255, 1008), middle, fill(255, 1008), last, fill(255, 1024))
	wantAll(t, f, want)
	must(t, r.Program(0, fill(0, 2048)))
	wantSteps(t, f, 4+256)
	wantAll(t, f, join(fill(255, 2048), fill(0, 2048), fill(255, 1024)))
}

// A refused Program tells the first of the errors that apply, and does nothing.
func TestP301ProgramRefused(t *testing.T) {
	f := flash.New(5)
	must(t, f.Program(0, fill(0, 5120)))
	was := f.Peek(0, 5120)
	f.Arm(0, nil)
	for first := range 4 {
		r := of(t, f, first, 2)
		for _, x := range ranges {
			if x.n < 0 || x.n > 4096 || x.in {
				continue
			}
			wantErr(t, "blank bytes beyond", r.Program(x.at, fill(255, x.n)), api.ErrRange)
			wantErr(t, "noughts beyond", r.Program(x.at, fill(0, x.n)), api.ErrRange)
		}
		for _, x := range []struct {
			at, n int
			want  api.Errno
		}{
			{0, 7, api.ErrAlign}, {1, 0, api.ErrAlign}, {4, 8, api.ErrAlign}, {1, 7, api.ErrAlign},
			{1020, 8, api.ErrAlign}, {2047, 1, api.ErrAlign}, {2044, 8, api.ErrRange}, {2041, 0, api.ErrAlign},
			{0, 8, api.ErrDirty}, {2040, 8, api.ErrDirty}, {1016, 16, api.ErrDirty}, {0, 2048, api.ErrDirty},
		} {
			wantErr(t, "Program", r.Program(x.at, fill(1, x.n)), x.want)
		}
	}
	wantAll(t, f, was)
	wantSteps(t, f, 640)
	if f.Off() {
		t.Error("a refused Program is a step")
	}
}

// A word that cannot be programmed keeps those before it from being programmed.
func TestP301ProgramDirtyWord(t *testing.T) {
	f := flash.New(3)
	r := of(t, f, 1, 2)
	must(t, r.Program(1024, fill(0, 8)))
	was := f.Peek(0, 3072)
	wantErr(t, "a word that cannot", r.Program(1008, fill(1, 24)), api.ErrDirty)
	wantAll(t, f, was)
	wantSteps(t, f, 1)
}

// beyond lists numbers that no sector of a region of two has.
var beyond = []int{-1, -2, 2, 3, 4, 1024, 2048, math.MinInt, math.MaxInt, 1 << 54, -1 << 54, 1<<54 + 1}

func TestP301Erase(t *testing.T) {
	for first := range 4 {
		for sector := range 2 {
			f := flash.New(5)
			content := pattern(t, f)
			r := of(t, f, first, 2)
			must(t, r.Erase(sector))
			at := 1024 * (first + sector)
			wantAll(t, f, join(content[:at], fill(255, 1024), content[at+1024:]))
			wantSteps(t, f, 1)
			for s := range 5 {
				want := 0
				if s == first+sector {
					want = 1
				}
				if f.Erases(s) != want {
					t.Errorf("sector %d erased %d times, want %d", s, f.Erases(s), want)
				}
			}
			must(t, r.Erase(sector)) // a blank sector is erased as well
			wantSteps(t, f, 2)
		}
	}
}

func TestP301EraseRefused(t *testing.T) {
	f := flash.New(5)
	content := pattern(t, f)
	f.Arm(0, nil)
	for first := range 4 {
		r := of(t, f, first, 2)
		for _, s := range beyond {
			wantErr(t, "no such sector", r.Erase(s), api.ErrRange)
		}
	}
	wantAll(t, f, content)
	wantSteps(t, f, 0)
}

func TestP301IsBlank(t *testing.T) {
	f := flash.New(5)
	r := of(t, f, 2, 2)
	wantBlank := func(sector int, want bool) {
		t.Helper()
		if got, e := r.IsBlank(sector); got != want || e != api.OK {
			t.Errorf("IsBlank(%d): %v, error %d, want %v", sector, got, e, want)
		}
	}
	wantBlank(0, true)
	wantBlank(1, true)
	// What stands beside the sector, or beside the region, is not of it.
	must(t, f.Spoil(1024, fill(0, 1024)))
	must(t, f.Spoil(4096, fill(0, 1024)))
	wantBlank(0, true)
	wantBlank(1, true)
	for sector := range 2 {
		for _, i := range []int{0, 1, 7, 8, 511, 1016, 1022, 1023} {
			for bit := range 8 {
				at := 2048 + 1024*sector + i
				must(t, f.Spoil(at, []byte{255 &^ (1 << bit)}))
				wantBlank(sector, false)
				wantBlank(1-sector, true)
				must(t, f.Spoil(at, []byte{255}))
			}
		}
	}
	must(t, f.Spoil(2048, fill(0, 2048)))
	wantBlank(0, false)
	wantBlank(1, false)
	must(t, r.Erase(1))
	wantBlank(0, false)
	wantBlank(1, true)
	wantSteps(t, f, 1)
}

func TestP301IsBlankRefused(t *testing.T) {
	f := flash.New(5) // all blank, so that true would be told of other sectors
	for first := range 4 {
		r := of(t, f, first, 2)
		for _, s := range beyond {
			if got, e := r.IsBlank(s); got || e != api.ErrRange {
				t.Errorf("IsBlank(%d): %v, error %d", s, got, e)
			}
		}
	}
}

// Without power every operation tells ErrCut, whatever else is wrong with it.
func TestP301WithoutPower(t *testing.T) {
	f := flash.New(5)
	r := of(t, f, 2, 2)
	cut(t, f)
	was := f.Peek(0, 5120)
	for _, x := range ranges {
		if b, e := r.Read(x.at, x.n); len(b) != 0 || e != api.ErrCut {
			t.Errorf("Read(%d, %d): %d bytes, error %d", x.at, x.n, len(b), e)
		}
		if x.n >= 0 && x.n <= 4096 {
			wantErr(t, "Program", r.Program(x.at, fill(0, x.n)), api.ErrCut)
		}
	}
	wantErr(t, "Program", r.Program(1, fill(0, 7)), api.ErrCut)
	for _, s := range append(beyond, 0, 1) {
		if got, e := r.IsBlank(s); got || e != api.ErrCut {
			t.Errorf("IsBlank(%d): %v, error %d", s, got, e)
		}
		wantErr(t, "Erase", r.Erase(s), api.ErrCut)
	}
	if r.Size() != 2048 {
		t.Errorf("Size without power: %d", r.Size())
	}
	wantAll(t, f, was)
	wantSteps(t, f, 1)
	f.Boot()
	must(t, r.Program(0, fill(5, 8)))
	wantAll(t, f, join(fill(255, 2048), fill(5, 8), fill(255, 3064)))
}

func TestP301InterruptedProgram(t *testing.T) {
	for after := range 3 {
		f := flash.New(4)
		r := of(t, f, 1, 2)
		f.Arm(after, []byte{15, 0, 255})
		wantErr(t, "interrupted", r.Program(1008, fill(0, 24)), api.ErrCut)
		left := join(fill(0, 8*after), []byte{15, 0, 255, 0, 0, 0, 0, 0}, fill(255, 16-8*after))
		wantAll(t, f, join(fill(255, 2032), left, fill(255, 2040)))
		wantSteps(t, f, after+1)
		_, e := r.Read(0, 1)
		wantErr(t, "Read without power", e, api.ErrCut)
	}
}

func TestP301InterruptedErase(t *testing.T) {
	f := flash.New(4)
	must(t, f.Spoil(0, fill(0, 4096)))
	r := of(t, f, 1, 2)
	f.Arm(0, []byte{1, 2, 255})
	wantErr(t, "interrupted", r.Erase(1), api.ErrCut)
	wantAll(t, f, join(fill(0, 2048), []byte{1, 2, 255}, fill(0, 2045)))
	wantErr(t, "no such sector, without power", r.Erase(2), api.ErrCut)
	f.Boot()
	wantErr(t, "no such sector", r.Erase(2), api.ErrRange)
	must(t, r.Erase(1))
	wantAll(t, f, join(fill(0, 2048), fill(255, 1024), fill(0, 1024)))
}

func TestP301Part(t *testing.T) {
	f := flash.New(9)
	content := pattern(t, f)
	r := of(t, f, 2, 5)
	for _, power := range []bool{true, false} {
		if !power {
			cut(t, f)
		}
		for _, x := range sectors {
			p, e := r.Part(x.first, x.count)
			var want []byte
			if x.are {
				want = content[1024*(2+x.first) : 1024*(2+x.first+x.count)]
			}
			f.Boot()
			wantSectors(t, p, e, x.are, want)
			if !power {
				cut(t, f)
			}
		}
	}
}

func TestP301PartOfPart(t *testing.T) {
	f := flash.New(9)
	content := pattern(t, f)
	r := of(t, f, 1, 7)
	p := part(t, r, 2, 4)
	q := part(t, p, 1, 2)
	wantSectors(t, q, api.OK, true, content[4096:6144])
	wantSectors(t, part(t, q, 1, 1), api.OK, true, content[5120:6144])
	wantSectors(t, part(t, p, 0, 4), api.OK, true, content[3072:7168])
	// Sectors of the flash, or of r, that do not belong to the part.
	for _, x := range [][2]int{{-1, 1}, {-1, 2}, {0, 3}, {1, 2}, {2, 1}, {3, 1}, {0, 0}, {2, 0}, {1, -1}} {
		z, e := q.Part(x[0], x[1])
		wantErr(t, "Part", e, api.ErrArg)
		wantEmpty(t, z)
	}
	must(t, q.Erase(1))
	wantAll(t, f, join(content[:5120], fill(255, 1024), content[6144:]))
	wantErr(t, "Erase behind the part", q.Erase(2), api.ErrRange)
	must(t, q.Program(1024, fill(9, 8)))
	wantAll(t, f, join(content[:5120], fill(9, 8), fill(255, 1016), content[6144:]))
	wantErr(t, "Program behind the part", q.Program(2048, fill(0, 8)), api.ErrRange)
	// The region that was divided is what it was.
	wantSectors(t, part(t, r, 0, 4), api.OK, true, content[1024:5120])
	if r.Size() != 7168 || p.Size() != 4096 {
		t.Errorf("%d and %d bytes", r.Size(), p.Size())
	}
}

// What one region does is seen by the others and by the flash, and the other
// way round.
func TestP301View(t *testing.T) {
	f := flash.New(6)
	r, s := of(t, f, 1, 3), of(t, f, 2, 4)
	copied := r
	must(t, r.Program(1024, fill(1, 8)))
	must(t, s.Program(8, fill(2, 8)))
	must(t, f.Program(2064, fill(3, 8)))
	want := join(fill(1, 8), fill(2, 8), fill(3, 8))
	for _, x := range []struct {
		r  region.Region
		at int
	}{{r, 1024}, {copied, 1024}, {s, 0}, {of(t, f, 2, 1), 0}, {part(t, r, 1, 1), 0}} {
		b, e := x.r.Read(x.at, 24)
		must(t, e)
		if !bytes.Equal(b, want) {
			t.Errorf("at %d stands %v", x.at, b)
		}
	}
	must(t, copied.Erase(1))
	for _, x := range []region.Region{r, s} {
		for sector := range 3 {
			if blank, e := x.IsBlank(sector); !blank || e != api.OK {
				t.Errorf("sector %d: blank %v, error %d", sector, blank, e)
			}
		}
	}
	other := of(t, flash.New(6), 1, 3)
	must(t, other.Program(0, fill(0, 3072)))
	wantAll(t, f, fill(255, 6144))
}

func TestP301Zero(t *testing.T) {
	var r region.Region
	if r.Size() != 0 {
		t.Errorf("Size: %d", r.Size())
	}
	for _, x := range ranges {
		if b, e := r.Read(x.at, x.n); len(b) != 0 || e != api.ErrRange {
			t.Errorf("Read(%d, %d): %d bytes, error %d", x.at, x.n, len(b), e)
		}
		if x.n >= 0 && x.n <= 4096 {
			wantErr(t, "Program", r.Program(x.at, fill(0, x.n)), api.ErrRange)
		}
	}
	for _, s := range append(beyond, 0, 1) {
		if got, e := r.IsBlank(s); got || e != api.ErrRange {
			t.Errorf("IsBlank(%d): %v, error %d", s, got, e)
		}
		wantErr(t, "Erase", r.Erase(s), api.ErrRange)
	}
	for _, x := range sectors {
		p, e := r.Part(x.first, x.count)
		wantErr(t, "Part", e, api.ErrArg)
		wantEmpty(t, p)
	}
}

func TestP301ArgumentsStay(t *testing.T) {
	f := flash.New(3)
	r := of(t, f, 1, 1)
	whole := fill(170, 24)
	b := whole[:16]
	must(t, r.Program(8, b))
	wantErr(t, "over others", r.Program(4, b), api.ErrAlign)
	if !bytes.Equal(whole, fill(170, 24)) {
		t.Errorf("the argument has become %v", whole)
	}
	clear(whole)
	wantAll(t, f, join(fill(255, 1032), fill(170, 16), fill(255, 2024)))
}

// play holds a region against a flash of its own that is as great as the
// region: the two answer the same.
type play struct {
	*rand.Rand
	f, own *flash.Flash
	r      region.Region
	first  int
}

// both performs one operation on the region and on its own flash, and tells
// the errors.
func (p *play) both() (got, want api.Errno) {
	switch p.IntN(8) {
	case 0, 1, 2:
		at, b := 8*p.IntN(260)-8, fill(byte(p.Uint32()|p.Uint32()), 8*p.IntN(5))
		if p.IntN(6) == 0 {
			at++
		}
		return p.r.Program(at, b), p.own.Program(at, b)
	case 3:
		s := p.IntN(4) - 1
		return p.r.Erase(s), p.own.Erase(s)
	case 4:
		at, b := p.IntN(2000), fill(byte(p.Uint32()), p.IntN(48))
		return p.f.Spoil(1024*p.first+at, b), p.own.Spoil(at, b)
	case 5:
		after, pick := p.IntN(9)-1, fill(byte(p.Uint32()), p.IntN(1100))
		p.f.Arm(after, pick)
		p.own.Arm(after, pick)
	case 6:
		p.f.Boot()
		p.own.Boot()
	case 7:
		at, n := p.IntN(2100)-20, p.IntN(60)-2
		a, got := p.r.Read(at, n)
		b, want := p.own.Read(at, n)
		if !bytes.Equal(a, b) {
			return api.ErrData, api.OK
		}
		return got, want
	}
	return api.OK, api.OK
}

func TestP301Plays(t *testing.T) {
	for seed := range 40 {
		p := &play{Rand: rand.New(rand.NewPCG(3, uint64(seed))), f: flash.New(6), own: flash.New(2)}
		p.first = p.IntN(5)
		p.r = of(t, p.f, p.first, 2)
		rest := pattern(t, p.f)
		from, to := 1024*p.first, 1024*p.first+2048
		must(t, p.own.Spoil(0, rest[from:to]))
		for range 200 {
			got, want := p.both()
			wantErr(t, "an operation", got, want)
			now := join(rest[:from], p.own.Peek(0, 2048), rest[to:])
			if !bytes.Equal(p.f.Peek(0, 6144), now) {
				t.Fatal("the content is another")
			}
			if p.f.Steps() != p.own.Steps() || p.f.Off() != p.own.Off() {
				t.Fatalf("%d steps, off %v; want %d, %v", p.f.Steps(), p.f.Off(), p.own.Steps(), p.own.Off())
			}
		}
	}
}
