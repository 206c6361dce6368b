package flash_test

import (
	"bytes"
	"math"
	"math/rand/v2"
	"testing"

	"bootjack/api"
	"bootjack/flash"
)

// fill is n bytes of the value x.
func fill(x byte, n int) []byte { return bytes.Repeat([]byte{x}, n) }

// join is all parts in one slice.
func join(parts ...[]byte) []byte { return bytes.Join(parts, nil) }

// spare is a slice of b's bytes with bytes 170 behind them that nobody may
// change.
func spare(b ...byte) []byte {
	return append(bytes.Clone(b), fill(170, 8)...)[:len(b)]
}

// must fails the test unless e is OK.
func must(t *testing.T, e api.Errno) {
	t.Helper()
	if e != api.OK {
		t.Fatalf("error %d, want OK", e)
	}
}

// wantErr fails the test unless e is want.
func wantErr(t *testing.T, what string, e, want api.Errno) {
	t.Helper()
	if e != want {
		t.Errorf("%s: error %d, want %d", what, e, want)
	}
}

// wantBytes fails the test unless the flash has the bytes want at offset at.
func wantBytes(t *testing.T, f *flash.Flash, at int, want []byte) {
	t.Helper()
	if got := f.Peek(at, len(want)); !bytes.Equal(got, want) {
		t.Errorf("at %d stands %v, want %v", at, got, want)
	}
}

// wantSteps fails the test unless the flash has performed this many steps.
func wantSteps(t *testing.T, f *flash.Flash, want int) {
	t.Helper()
	if got := f.Steps(); got != want {
		t.Errorf("%d steps, want %d", got, want)
	}
}

// off is a flash of two sectors whose power is off; its first word is 0, and
// it has performed one step.
func off(t *testing.T) *flash.Flash {
	t.Helper()
	f := flash.New(2)
	f.Arm(0, nil)
	wantErr(t, "interrupted Program", f.Program(0, make([]byte, api.Word)), api.ErrCut)
	if !f.Off() {
		t.Fatal("power is on")
	}
	return f
}

func TestP201New(t *testing.T) {
	for _, x := range []struct{ sectors, want int }{
		{math.MinInt, 1}, {-1, 1}, {0, 1}, {1, 1}, {2, 2}, {63, 63}, {64, 64},
		{65, 65}, {202, 202}, {255, 255}, {256, 256}, {257, 256}, {math.MaxInt, 256},
	} {
		f := flash.New(x.sectors)
		size := x.want * api.Sector
		if f.Size() != size {
			t.Fatalf("New(%d): %d bytes, want %d", x.sectors, f.Size(), size)
		}
		b, e := f.Read(0, size)
		must(t, e)
		if !bytes.Equal(b, fill(255, size)) {
			t.Errorf("New(%d) is not blank", x.sectors)
		}
		if f.Off() || f.Steps() != 0 {
			t.Errorf("New(%d): off %v, %d steps", x.sectors, f.Off(), f.Steps())
		}
		for s := range x.want {
			if f.Erases(s) != 0 {
				t.Errorf("New(%d): sector %d has been erased", x.sectors, s)
			}
			must(t, f.Erase(s))
		}
		wantErr(t, "Erase behind the end", f.Erase(x.want), api.ErrRange)
		if f.Off() {
			t.Errorf("New(%d): a power loss is armed", x.sectors)
		}
	}
}

// ranges lists offsets and numbers of bytes, and whether the bytes lie within
// a flash of two sectors.
var ranges = []struct {
	at, n int
	in    bool
}{
	{0, 0, true}, {0, 1, true}, {1, 1, true}, {3, 5, true}, {0, 2048, true},
	{1, 2047, true}, {2047, 1, true}, {2048, 0, true}, {1020, 8, true},
	{1, 2048, false}, {0, 2049, false}, {2047, 2, false}, {2048, 1, false},
	{2049, 0, false}, {-1, 0, false}, {-1, 1, false}, {-8, 16, false},
	{0, -1, false}, {8, -8, false}, {2048, -1, false}, {-1, -1, false},
	{math.MaxInt, 0, false}, {math.MaxInt, 1, false}, {0, math.MaxInt, false},
	{5, math.MaxInt, false}, {2048, math.MaxInt, false},
	{math.MaxInt, math.MaxInt, false}, {math.MinInt, 0, false},
	{math.MinInt, 8, false}, {math.MinInt, math.MinInt, false},
	{math.MinInt, math.MaxInt, false}, {0, math.MinInt, false},
}

func TestP201Read(t *testing.T) {
	f := flash.New(2)
	content := make([]byte, 2048)
	for i := range content {
		content[i] = byte(i*7 + i>>8)
	}
	must(t, f.Program(0, content))
	for _, x := range ranges {
		want, wantE := []byte(nil), api.ErrRange
		if x.in {
			want, wantE = content[x.at:x.at+x.n], api.OK
		}
		b, e := f.Read(x.at, x.n)
		if e != wantE || !bytes.Equal(b, want) {
			t.Errorf("Read(%d, %d): %d bytes, error %d, want %d", x.at, x.n, len(b), e, wantE)
		}
		if p := f.Peek(x.at, x.n); !bytes.Equal(p, want) {
			t.Errorf("Peek(%d, %d): %d bytes, want %d", x.at, x.n, len(p), len(want))
		}
	}
	wantSteps(t, f, 256)
}

func TestP201ReadWithoutPower(t *testing.T) {
	f := off(t)
	for _, x := range ranges {
		if b, e := f.Read(x.at, x.n); len(b) != 0 || e != api.ErrCut {
			t.Errorf("Read(%d, %d): %d bytes, error %d", x.at, x.n, len(b), e)
		}
	}
}

func TestP201ReadIsNew(t *testing.T) {
	f := flash.New(1)
	must(t, f.Program(0, []byte{1, 2, 3, 4, 5, 6, 7, 8}))
	b, e := f.Read(0, 8)
	must(t, e)
	clear(b[:cap(b)])
	p := f.Peek(0, 8)
	clear(p[:cap(p)])
	wantBytes(t, f, 0, join([]byte{1, 2, 3, 4, 5, 6, 7, 8}, fill(255, 1016)))
	b, _ = f.Read(0, 8)
	must(t, f.Erase(0))
	if !bytes.Equal(b, []byte{1, 2, 3, 4, 5, 6, 7, 8}) {
		t.Errorf("what was read follows the flash: %v", b)
	}
}

func TestP201Program(t *testing.T) {
	f := flash.New(2)
	must(t, f.Program(0, fill(0, 8)))
	wantErr(t, "eight bytes 1", f.Program(0, fill(1, 8)), api.ErrDirty)
	must(t, f.Program(0, fill(0, 8)))

	must(t, f.Program(16, fill(240, 8)))
	must(t, f.Program(16, fill(48, 8)))
	wantErr(t, "48 to 240", f.Program(16, fill(240, 8)), api.ErrDirty)

	words := join(fill(1, 8), fill(2, 8), fill(3, 8))
	must(t, f.Program(1016, words))
	wantBytes(t, f, 0, join(fill(0, 8), fill(255, 8), fill(48, 8), fill(255, 992), words, fill(255, 1008)))
	wantSteps(t, f, 7)

	must(t, f.Program(2040, fill(9, 8)))
	wantBytes(t, f, 2032, join(fill(255, 8), fill(9, 8)))
}

func TestP201ProgramNothing(t *testing.T) {
	f := flash.New(2)
	f.Arm(0, nil)
	for _, at := range []int{0, 8, 2048} {
		must(t, f.Program(at, nil))
		must(t, f.Program(at, []byte{}))
	}
	wantSteps(t, f, 0)
	if f.Off() {
		t.Error("programming nothing used up a power loss")
	}
}

// refused lists calls of Program and the errors that they return on a flash of
// two sectors whose words at 0, 1024 and 2040 are 0.
var refused = []struct {
	name string
	at   int
	b    []byte
	want api.Errno
}{
	{"behind the end", 2048, fill(255, 8), api.ErrRange},
	{"over the end", 2040, fill(255, 16), api.ErrRange},
	{"before the beginning", -8, fill(255, 8), api.ErrRange},
	{"too many bytes", 0, fill(0, 2056), api.ErrRange},
	{"nothing behind the end", 2056, nil, api.ErrRange},
	{"nothing before the beginning", -8, nil, api.ErrRange},
	{"greatest offset", math.MaxInt, fill(0, 8), api.ErrRange},
	{"greatest offset of a word", math.MaxInt &^ 7, fill(0, 8), api.ErrRange},
	{"smallest offset", math.MinInt, fill(0, 8), api.ErrRange},
	{"range goes before align", 2044, fill(0, 8), api.ErrRange},
	{"range goes before align of the length", 2040, fill(0, 9), api.ErrRange},
	{"nothing at no word behind the end", 2049, nil, api.ErrRange},
	{"no word's offset", 4, fill(255, 8), api.ErrAlign},
	{"nothing at no word's offset", 1, nil, api.ErrAlign},
	{"no whole word", 8, fill(255, 7), api.ErrAlign},
	{"more than a word", 8, fill(255, 9), api.ErrAlign},
	{"both end within words", 12, fill(0, 4), api.ErrAlign},
	{"align goes before dirty", 1, fill(1, 8), api.ErrAlign},
	{"align of the length goes before dirty", 0, fill(1, 15), api.ErrAlign},
	{"one bit of the first byte", 0, []byte{1, 0, 0, 0, 0, 0, 0, 0}, api.ErrDirty},
	{"one bit of the last byte", 0, []byte{0, 0, 0, 0, 0, 0, 0, 128}, api.ErrDirty},
	{"the last word cannot", 1008, join(fill(0, 16), fill(1, 8)), api.ErrDirty},
	{"a middle word cannot", 1016, join(fill(0, 8), fill(1, 8), fill(0, 8)), api.ErrDirty},
	{"the first word cannot", 1024, join(fill(4, 8), fill(0, 8)), api.ErrDirty},
	{"the last word of all cannot", 2032, fill(7, 16), api.ErrDirty},
}

func TestP201ProgramRefused(t *testing.T) {
	f := flash.New(2)
	for _, at := range []int{0, 1024, 2040} {
		must(t, f.Program(at, fill(0, 8)))
	}
	was := f.Peek(0, 2048)
	f.Arm(0, nil)
	for _, x := range refused {
		wantErr(t, x.name, f.Program(x.at, x.b), x.want)
		if !bytes.Equal(f.Peek(0, 2048), was) || f.Steps() != 3 || f.Off() {
			t.Fatalf("%s: a refused call has an effect", x.name)
		}
	}
	wantErr(t, "what was armed", f.Program(8, fill(0, 8)), api.ErrCut)
	was = f.Peek(0, 2048)
	for _, x := range refused {
		wantErr(t, x.name+" without power", f.Program(x.at, x.b), api.ErrCut)
	}
	if !bytes.Equal(f.Peek(0, 2048), was) || f.Steps() != 4 {
		t.Error("Program without power has an effect")
	}
}

func TestP201Erase(t *testing.T) {
	f := flash.New(3)
	must(t, f.Program(0, fill(0, 3072)))
	must(t, f.Erase(1))
	wantBytes(t, f, 0, join(fill(0, 1024), fill(255, 1024), fill(0, 1024)))
	must(t, f.Program(1024, fill(5, 8)))
	must(t, f.Erase(2))
	must(t, f.Erase(2))
	wantBytes(t, f, 0, join(fill(0, 1024), fill(5, 8), fill(255, 2040)))
	must(t, f.Erase(0))
	wantBytes(t, f, 0, join(fill(255, 1024), fill(5, 8), fill(255, 2040)))
	wantSteps(t, f, 384+5)
}

// noSectors lists numbers that no sector of a flash of two has.
var noSectors = []int{-1, -2, 2, 3, 1024, 2048, math.MinInt, math.MaxInt, 1 << 54, -1 << 54}

func TestP201EraseRefused(t *testing.T) {
	f := flash.New(2)
	must(t, f.Program(0, fill(0, 2048)))
	f.Arm(0, nil)
	for _, s := range noSectors {
		wantErr(t, "no such sector", f.Erase(s), api.ErrRange)
		if f.Erases(s) != 0 {
			t.Errorf("Erases(%d): %d", s, f.Erases(s))
		}
	}
	wantBytes(t, f, 0, fill(0, 2048))
	wantSteps(t, f, 256)
	if f.Off() || f.Erases(0) != 0 || f.Erases(1) != 0 {
		t.Error("a refused Erase has an effect")
	}

	f = off(t)
	must(t, f.Spoil(0, fill(0, 2048)))
	for _, s := range append(noSectors, 0, 1) {
		wantErr(t, "Erase without power", f.Erase(s), api.ErrCut)
		if f.Erases(s) != 0 {
			t.Errorf("Erases(%d): %d", s, f.Erases(s))
		}
	}
	wantBytes(t, f, 0, fill(0, 2048))
	wantSteps(t, f, 1)
}

func TestP202StepsAndErases(t *testing.T) {
	f := flash.New(2)
	must(t, f.Program(0, fill(0, 8)))
	wantSteps(t, f, 1)
	must(t, f.Program(0, fill(0, 8))) // a word that stays is a step as well
	wantSteps(t, f, 2)
	must(t, f.Program(1016, fill(255, 16)))
	wantSteps(t, f, 4)
	must(t, f.Erase(1)) // and so is a sector that is blank already
	must(t, f.Erase(1))
	must(t, f.Erase(0))
	wantSteps(t, f, 7)
	if f.Erases(0) != 1 || f.Erases(1) != 2 {
		t.Errorf("erased %d and %d times", f.Erases(0), f.Erases(1))
	}
	f.Read(0, 2048)
	f.Peek(0, 2048)
	f.Spoil(0, fill(3, 2048))
	f.Arm(3, nil)
	f.Boot()
	f.Size()
	f.Off()
	f.Read(0, 2049)
	f.Program(0, fill(255, 8))
	f.Erase(2)
	wantSteps(t, f, 7)
	if f.Erases(0) != 1 || f.Erases(1) != 2 {
		t.Errorf("erased %d and %d times", f.Erases(0), f.Erases(1))
	}
}

// Each word of one call is interrupted in turn: those before it are
// programmed, those behind it stay.
func TestP202InterruptedProgram(t *testing.T) {
	old := []byte{255, 254, 240, 85, 255, 15, 129, 0}
	now := []byte{0, 18, 48, 1, 255, 0, 128, 0}
	for _, x := range []struct{ pick, left []byte }{
		{nil, now},
		{fill(255, 8), old},
		{fill(255, 2000), old},
		{[]byte{15}, []byte{15, 18, 48, 1, 255, 0, 128, 0}},
		{[]byte{0, 0, 128}, []byte{0, 18, 176, 1, 255, 0, 128, 0}},
		{[]byte{129, 255, 195, 170, 7, 9, 1, 255, 255, 255}, []byte{129, 254, 240, 1, 255, 9, 129, 0}},
	} {
		for after := range 4 {
			f := flash.New(1)
			must(t, f.Program(992, bytes.Repeat(old, 4)))
			f.Arm(after, x.pick)
			wantErr(t, "interrupted", f.Program(992, bytes.Repeat(now, 4)), api.ErrCut)
			if !f.Off() {
				t.Error("power is on after an interruption")
			}
			wantSteps(t, f, 5+after)
			want := join(bytes.Repeat(now, after), x.left, bytes.Repeat(old, 3-after))
			wantBytes(t, f, 0, join(fill(255, 992), want))
		}
		f := flash.New(1)
		must(t, f.Program(992, bytes.Repeat(old, 4)))
		f.Arm(4, x.pick)
		must(t, f.Program(992, bytes.Repeat(now, 4)))
		if f.Off() {
			t.Error("power is off too early")
		}
		wantBytes(t, f, 0, join(fill(255, 992), bytes.Repeat(now, 4)))
	}
}

func TestP202InterruptedErase(t *testing.T) {
	content := make([]byte, 1024)
	for i := range content {
		content[i] = byte(i * 13)
	}
	long := bytes.Repeat([]byte{0, 1, 255, 64}, 512)
	for _, pick := range [][]byte{nil, {}, {4}, {1, 2, 128}, fill(255, 1024), fill(255, 1023), long[:1024], long} {
		f := flash.New(3)
		must(t, f.Program(0, fill(0, 3072)))
		must(t, f.Spoil(1024, content))
		f.Arm(0, pick)
		wantErr(t, "interrupted", f.Erase(1), api.ErrCut)
		want := bytes.Clone(content)
		for i := range min(len(pick), len(want)) {
			want[i] |= pick[i]
		}
		wantBytes(t, f, 0, join(fill(0, 1024), want, fill(0, 1024)))
		wantSteps(t, f, 385)
		if !f.Off() || f.Erases(1) != 1 || f.Erases(0) != 0 || f.Erases(2) != 0 {
			t.Errorf("off %v, erased %d %d %d times", f.Off(), f.Erases(0), f.Erases(1), f.Erases(2))
		}
	}
}

// Steps of both kinds count towards a power loss, and nothing else does.
func TestP202ArmCountsSteps(t *testing.T) {
	f := flash.New(2)
	f.Arm(5, nil)
	must(t, f.Program(0, fill(1, 16)))
	must(t, f.Erase(1))
	f.Read(0, 8)
	f.Peek(0, 8)
	f.Spoil(0, fill(1, 8))
	f.Erase(2)
	f.Program(4, fill(0, 8))
	f.Program(0, fill(2, 8))
	must(t, f.Program(0, nil))
	must(t, f.Program(24, fill(1, 8)))
	must(t, f.Erase(0))
	if f.Off() {
		t.Fatal("power is off too early")
	}
	wantErr(t, "the sixth step", f.Erase(0), api.ErrCut)
	wantSteps(t, f, 6)
}

func TestP202ArmReplaces(t *testing.T) {
	f := flash.New(1)
	f.Arm(0, fill(255, 8))
	f.Arm(2, fill(1, 8))
	must(t, f.Erase(0))
	f.Arm(1, fill(3, 2)) // counts from here on, and with this pick
	must(t, f.Erase(0))
	wantErr(t, "the second step", f.Program(0, fill(0, 8)), api.ErrCut)
	wantBytes(t, f, 0, []byte{3, 3, 0, 0, 0, 0, 0, 0, 255})
}

func TestP202ArmNegative(t *testing.T) {
	for _, after := range []int{-1, -2, math.MinInt} {
		f := flash.New(1)
		f.Arm(after, fill(255, 8))
		must(t, f.Erase(0))
		f.Arm(3, nil)
		must(t, f.Erase(0))
		f.Arm(after, nil)
		for range 10 {
			must(t, f.Program(0, fill(0, 1024)))
			must(t, f.Erase(0))
		}
	}
}

func TestP202ArmGreatest(t *testing.T) {
	f := flash.New(1)
	f.Arm(math.MaxInt, nil)
	must(t, f.Program(0, fill(0, 1024)))
	must(t, f.Erase(0))
	if f.Off() {
		t.Error("power is off too early")
	}
}

func TestP202NothingIsArmedAfterInterruption(t *testing.T) {
	f := off(t)
	f.Boot()
	if f.Off() {
		t.Error("power is off after Boot")
	}
	must(t, f.Program(0, fill(0, 1024)))
	must(t, f.Erase(0))
	wantSteps(t, f, 130)
}

func TestP202Boot(t *testing.T) {
	f := flash.New(1)
	f.Arm(0, nil)
	f.Boot() // disarms, though power was on
	must(t, f.Erase(0))

	f = off(t)
	f.Arm(0, nil)
	f.Boot()
	must(t, f.Erase(0))
	must(t, f.Program(8, fill(1, 8)))
	f.Boot()
	wantBytes(t, f, 0, join(fill(255, 8), fill(1, 8), fill(255, 1008)))
	wantSteps(t, f, 3)
	if f.Erases(0) != 1 || f.Size() != 2048 {
		t.Error("Boot changes more than the power")
	}
}

func TestP202OffKeepsTheContent(t *testing.T) {
	f := off(t)
	if f.Size() != 2048 {
		t.Errorf("Size without power: %d", f.Size())
	}
	wantBytes(t, f, 0, join(fill(0, 8), fill(255, 2040)))
	f.Boot()
	b, e := f.Read(0, 16)
	must(t, e)
	if !bytes.Equal(b, join(fill(0, 8), fill(255, 8))) {
		t.Errorf("after Boot stands %v", b)
	}
}

func TestP202Spoil(t *testing.T) {
	f := flash.New(2)
	must(t, f.Program(0, fill(0, 2048)))
	f.Arm(0, nil)
	must(t, f.Spoil(3, []byte{255, 1, 2}))
	must(t, f.Spoil(1022, []byte{3, 4, 5}))
	must(t, f.Spoil(2047, []byte{6}))
	must(t, f.Spoil(2048, nil))
	must(t, f.Spoil(9, nil))
	want := join(fill(0, 3), []byte{255, 1, 2}, fill(0, 1016), []byte{3, 4, 5}, fill(0, 1022), []byte{6})
	wantBytes(t, f, 0, want)
	wantSteps(t, f, 256)
	if f.Off() || f.Erases(0) != 0 {
		t.Error("Spoil counts as a step")
	}
	wantErr(t, "the next step", f.Erase(0), api.ErrCut)
	must(t, f.Spoil(3, []byte{9}))
	if !f.Off() {
		t.Error("Spoil turned power on")
	}
	wantBytes(t, f, 3, []byte{9, 1, 2})
}

func TestP202SpoilRefused(t *testing.T) {
	on, gone := flash.New(2), off(t)
	for _, f := range []*flash.Flash{on, gone} {
		was := f.Peek(0, 2048)
		for _, x := range ranges {
			if x.in || x.n < 0 || x.n > 4096 {
				continue
			}
			wantErr(t, "Spoil beyond", f.Spoil(x.at, make([]byte, x.n)), api.ErrRange)
		}
		wantErr(t, "more than there is", f.Spoil(0, make([]byte, 2049)), api.ErrRange)
		wantBytes(t, f, 0, was)
	}
}

func TestP202Peek(t *testing.T) {
	f := off(t)
	must(t, f.Spoil(1000, []byte{1, 2, 3}))
	wantBytes(t, f, 999, []byte{255, 1, 2, 3, 255})
	for _, x := range ranges {
		want := 0
		if x.in {
			want = x.n
		}
		if p := f.Peek(x.at, x.n); len(p) != want {
			t.Errorf("Peek(%d, %d) without power: %d bytes, want %d", x.at, x.n, len(p), want)
		}
	}
}

func TestP202Nil(t *testing.T) {
	var f *flash.Flash
	f.Arm(0, []byte{1})
	f.Arm(-1, nil)
	f.Boot()
	if f.Size() != 0 || f.Erases(0) != 0 || f.Erases(-1) != 0 || f.Steps() != 0 || f.Off() {
		t.Error("a nil Flash has a size, erasures, steps or no power")
	}
	for _, x := range ranges {
		if b, e := f.Read(x.at, x.n); len(b) != 0 || e != api.ErrCut {
			t.Errorf("nil.Read(%d, %d): %d bytes, error %d", x.at, x.n, len(b), e)
		}
		if p := f.Peek(x.at, x.n); len(p) != 0 {
			t.Errorf("nil.Peek(%d, %d): %d bytes", x.at, x.n, len(p))
		}
	}
	for _, at := range []int{-1, 0, 3, 8} {
		for _, b := range [][]byte{nil, fill(0, 7), fill(0, 8)} {
			wantErr(t, "nil.Program", f.Program(at, b), api.ErrCut)
			wantErr(t, "nil.Spoil", f.Spoil(at, b), api.ErrCut)
		}
		wantErr(t, "nil.Erase", f.Erase(at), api.ErrCut)
	}
}

// The zero Flash is not one of the chapter's, but it must not panic either.
func TestZeroFlash(t *testing.T) {
	f := &flash.Flash{}
	f.Arm(0, nil)
	f.Read(0, 0)
	f.Peek(0, 1)
	f.Boot()
	wantErr(t, "Program", f.Program(0, fill(0, 8)), api.ErrRange)
	wantErr(t, "Spoil", f.Spoil(0, fill(0, 8)), api.ErrRange)
	wantErr(t, "Erase", f.Erase(0), api.ErrRange)
	if f.Size() != 0 || f.Erases(0) != 0 || f.Steps() != 0 || f.Off() {
		t.Error("the zero Flash has sectors, steps or no power")
	}
}

func TestP202Independent(t *testing.T) {
	f, g := flash.New(1), flash.New(1)
	f.Arm(2, nil)
	must(t, g.Program(0, fill(0, 1024)))
	wantBytes(t, f, 0, fill(255, 1024))
	wantSteps(t, f, 0)
	must(t, f.Program(0, fill(1, 8)))
	must(t, f.Erase(0))
	wantErr(t, "f.Erase", f.Erase(0), api.ErrCut)
	if g.Off() || g.Steps() != 128 || g.Erases(0) != 0 {
		t.Errorf("off %v, %d steps, erased %d times", g.Off(), g.Steps(), g.Erases(0))
	}
	wantBytes(t, g, 0, fill(0, 1024))
}

func TestP201P202ArgumentsStayAndAreNotKept(t *testing.T) {
	f := flash.New(1)
	word, mark, pick := spare(1, 2, 3, 4, 5, 6, 7, 8), spare(9, 8, 7), spare(15, 255)
	all := [][]byte{word, mark, pick}
	var was [][]byte
	for _, b := range all {
		was = append(was, bytes.Clone(b[:cap(b)]))
	}
	must(t, f.Program(0, word))
	must(t, f.Spoil(8, mark))
	f.Arm(1, pick)
	must(t, f.Program(0, fill(0, 8)))
	for i, b := range all {
		if !bytes.Equal(b[:cap(b)], was[i]) {
			t.Errorf("argument %d has become %v, was %v", i, b[:cap(b)], was[i])
		}
		clear(b[:cap(b)])
	}
	must(t, f.Spoil(0, join([]byte{1, 2, 3, 4, 5, 6, 7, 8}, []byte{9, 8, 7})))
	wantErr(t, "interrupted", f.Erase(0), api.ErrCut)
	wantBytes(t, f, 0, []byte{15, 255, 3, 4, 5, 6, 7, 8, 9, 8, 7, 255})
}

// play is the memory as the chapter tells it, bit by bit.
type play struct {
	cells        []byte
	erases       []int
	steps, after int
	pick         []byte
	off          bool
}

// cut counts a step and tells whether it is interrupted.
func (p *play) cut() bool {
	p.steps++
	p.after--
	p.off = p.after == -1
	if p.after < -1 {
		p.after = -1000
	}
	return p.off
}

func (p *play) picked(i, bit int) bool {
	return i < len(p.pick) && p.pick[i]>>bit&1 == 1
}

func (p *play) program(at int, b []byte) api.Errno {
	switch {
	case p.off:
		return api.ErrCut
	case at < 0 || at > len(p.cells) || at+len(b) > len(p.cells):
		return api.ErrRange
	case at%8 != 0 || len(b)%8 != 0:
		return api.ErrAlign
	}
	for i, x := range b {
		if p.cells[at+i]|x != p.cells[at+i] {
			return api.ErrDirty
		}
	}
	for w := 0; w < len(b); w += 8 {
		cut := p.cut()
		for i := range 8 {
			for bit := range 8 {
				one := byte(1) << bit
				if b[w+i]&one == 0 && !(cut && p.picked(i, bit)) {
					p.cells[at+w+i] &^= one
				}
			}
		}
		if cut {
			p.after = -1000
			return api.ErrCut
		}
	}
	return api.OK
}

func (p *play) erase(s int) api.Errno {
	switch {
	case p.off:
		return api.ErrCut
	case s < 0 || s >= len(p.erases):
		return api.ErrRange
	}
	p.erases[s]++
	cut := p.cut()
	for i := range 1024 {
		for bit := range 8 {
			if !cut || p.picked(i, bit) {
				p.cells[1024*s+i] |= 1 << bit
			}
		}
	}
	if cut {
		p.after = -1000
		return api.ErrCut
	}
	return api.OK
}

// likely is a content of n bytes that may often be programmed over others.
func likely(r *rand.Rand, n int) []byte {
	b := make([]byte, n)
	keep := r.IntN(3)
	for i := range b {
		if keep > 0 {
			b[i] = byte(r.Uint32()) & byte(r.Uint32()<<(keep-1))
		}
	}
	return b
}

func TestP201P202Plays(t *testing.T) {
	r := rand.New(rand.NewPCG(2, 202))
	for range 40 {
		f := flash.New(3)
		p := &play{cells: fill(255, 3072), erases: make([]int, 3), after: -1000}
		for range 200 {
			var got, want api.Errno
			switch r.IntN(9) {
			case 0, 1, 2, 3:
				at, b := 8*r.IntN(390)-8, likely(r, 8*r.IntN(6))
				if r.IntN(8) == 0 {
					at, b = at+r.IntN(3), likely(r, r.IntN(20))
				}
				got, want = f.Program(at, b), p.program(at, b)
			case 4, 5:
				s := r.IntN(5) - 1
				got, want = f.Erase(s), p.erase(s)
			case 6:
				after, pick := r.IntN(12)-2, likely(r, r.IntN(1200))
				f.Arm(after, pick)
				p.after, p.pick = after, pick
				if after < 0 {
					p.after = -1000
				}
			case 7:
				at, b := r.IntN(3000), likely(r, r.IntN(72))
				got = f.Spoil(at, b)
				copy(p.cells[at:], b)
			case 8:
				f.Boot()
				p.off, p.after = false, -1000
			}
			wantErr(t, "an operation", got, want)
			if !bytes.Equal(f.Peek(0, 3072), p.cells) {
				t.Fatal("the content is another")
			}
			if f.Steps() != p.steps || f.Off() != p.off {
				t.Fatalf("%d steps, off %v; want %d, %v", f.Steps(), f.Off(), p.steps, p.off)
			}
			for s, n := range p.erases {
				if f.Erases(s) != n {
					t.Fatalf("sector %d erased %d times, want %d", s, f.Erases(s), n)
				}
			}
		}
	}
}
