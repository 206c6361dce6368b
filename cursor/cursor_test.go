package cursor_test

import (
	"bytes"
	"math"
	"math/rand/v2"
	"testing"

	"bootjack/api"
	"bootjack/cursor"
	"bootjack/flash"
	"bootjack/region"
)

// fill is n bytes of the value x.
func fill(x byte, n int) []byte { return bytes.Repeat([]byte{x}, n) }

// join is all parts in one slice.
func join(parts ...[]byte) []byte { return bytes.Join(parts, nil) }

// count is n bytes by which places can be told apart, none of them blank.
func count(n int) []byte {
	b := make([]byte, n)
	for i := range b {
		b[i] = byte((i*7 + i>>8) % 251)
	}
	return b
}

// must fails the test unless e is OK.
func must(t *testing.T, e api.Errno) {
	t.Helper()
	if e != api.OK {
		t.Fatalf("error %d, want OK", e)
	}
}

// wantErr fails the test unless e is want.
func wantErr(t *testing.T, what string, e, want api.Errno) {
	t.Helper()
	if e != want {
		t.Errorf("%s: error %d, want %d", what, e, want)
	}
}

// wantAt fails the test unless the cursor is at this offset and holds these
// bytes.
func wantAt(t *testing.T, c *cursor.Cursor, at int, held []byte) {
	t.Helper()
	if c.At() != at || !bytes.Equal(c.Held(), held) {
		t.Errorf("at %d, %v held; want %d, %v", c.At(), c.Held(), at, held)
	}
}

// wantSteps fails the test unless the flash has performed this many steps.
func wantSteps(t *testing.T, f *flash.Flash, want int) {
	t.Helper()
	if got := f.Steps(); got != want {
		t.Errorf("%d steps, want %d", got, want)
	}
}

// wantErases fails the test unless each sector has been erased this often.
func wantErases(t *testing.T, f *flash.Flash, want ...int) {
	t.Helper()
	for s, n := range want {
		if got := f.Erases(s); got != n {
			t.Errorf("sector %d is erased %d times, want %d", s, got, n)
		}
	}
}

// wantAll fails the test unless the flash has these bytes, and no others.
func wantAll(t *testing.T, f *flash.Flash, want []byte) {
	t.Helper()
	if got := f.Peek(0, f.Size()); !bytes.Equal(got, want) {
		t.Error("the content of the flash is another")
	}
}

// place is a region of blank sectors that begins with sector 1 of a flash, and
// behind which one more sector stands.
func place(t *testing.T, sectors int) (*flash.Flash, region.Region) {
	t.Helper()
	f := flash.New(sectors + 2)
	r, e := region.Of(f, 1, sectors)
	must(t, e)
	return f, r
}

// used is a place of which all sectors have some byte 0 in the middle.
func used(t *testing.T, sectors int) (*flash.Flash, region.Region) {
	t.Helper()
	f, r := place(t, sectors)
	for s := range sectors + 2 {
		must(t, f.Spoil(1024*s+515, []byte{0}))
	}
	return f, r
}

// start is a cursor at an offset that exists.
func start(t *testing.T, r region.Region, from int) *cursor.Cursor {
	t.Helper()
	c, e := cursor.New(r, from)
	must(t, e)
	return c
}

// cut turns the power of the flash off by a step that changes nothing.
func cut(t *testing.T, f *flash.Flash) {
	t.Helper()
	was := f.Peek(0, 8)
	f.Arm(0, nil)
	wantErr(t, "the interrupted step", f.Program(0, was), api.ErrCut)
}

func TestP401New(t *testing.T) {
	f, r := place(t, 2)
	content := count(4096)
	must(t, f.Spoil(0, content))
	for from := range 2049 {
		c := start(t, r, from)
		wantAt(t, c, from, content[1024+from/8*8:1024+from])
	}
	wantSteps(t, f, 0)
	wantAll(t, f, content)
}

// outside lists offsets that no region of two sectors has, though the flash may
// have bytes there.
var outside = []int{-1, -7, -8, -1024, 2049, 2050, 2056, 3072, math.MinInt, math.MaxInt, math.MaxInt - 7}

func TestP401NewOutside(t *testing.T) {
	f, r := place(t, 2)
	for _, power := range []bool{true, false} {
		if !power {
			cut(t, f)
		}
		for _, from := range outside {
			c, e := cursor.New(r, from)
			wantErr(t, "New outside", e, api.ErrArg)
			if c != nil {
				t.Errorf("New from %d: a cursor comes with an error", from)
			}
		}
	}
}

func TestP401NewUnread(t *testing.T) {
	f, r := place(t, 2)
	cut(t, f)
	for _, from := range []int{0, 1, 8, 13, 1024, 2047, 2048} {
		c, e := cursor.New(r, from)
		wantErr(t, "New without power", e, api.ErrCut)
		if c != nil {
			t.Errorf("New from %d: a cursor comes with an error", from)
		}
	}
	f.Boot()
	wantAt(t, start(t, r, 13), 13, fill(255, 5))
	for _, x := range []struct {
		from int
		want api.Errno
	}{{0, api.ErrRange}, {1, api.ErrArg}, {-1, api.ErrArg}, {8, api.ErrArg}, {math.MaxInt, api.ErrArg}} {
		c, e := cursor.New(region.Region{}, x.from)
		wantErr(t, "New of the zero Region", e, x.want)
		if c != nil {
			t.Errorf("New from %d of the zero Region: a cursor comes with an error", x.from)
		}
	}
}

// What is held is neither the flash's memory nor the caller's.
func TestP401HeldIsNew(t *testing.T) {
	f, r := place(t, 1)
	must(t, f.Spoil(1024, count(8)))
	c := start(t, r, 5)
	must(t, f.Spoil(1024, fill(0, 8)))
	held := c.Held()
	clear(held[:cap(held)])
	wantAt(t, c, 5, count(5))
	held = c.Held()
	must(t, c.Write([]byte{77}))
	if !bytes.Equal(held, count(5)) {
		t.Errorf("what was told as held has become %v", held)
	}
}

func TestP401WriteByteByByte(t *testing.T) {
	for _, from := range []int{0, 1, 7, 8, 13, 1020, 1024} {
		f, r := place(t, 3)
		c := start(t, r, from)
		head := from / 8 * 8
		before := fill(255, 1024+from)
		data := count(3072 - from)
		all := join(fill(255, from-head), data) // from the first word on
		for i := range data {
			must(t, c.Write(data[i:i+1]))
			at := from + i + 1
			whole := at/8*8 - head
			wantAt(t, c, at, all[whole:at-head])
			wantSteps(t, f, whole/8)
			if i%100 == 0 || at == 3072 {
				now := join(before, data)[:1024+max(at/8*8, from)]
				wantAll(t, f, join(now, fill(255, 5120-len(now))))
			}
		}
		wantErases(t, f, 0, 0, 0, 0, 0)
	}
}

func TestP401WritePieces(t *testing.T) {
	data := count(3000)
	for _, n := range []int{1, 2, 7, 8, 9, 16, 17, 1000, 1024, 1025, 2999, 3000} {
		f, r := used(t, 3)
		c := start(t, r, 0)
		must(t, c.Write(nil))
		for rest := data; len(rest) > 0; rest = rest[min(n, len(rest)):] {
			must(t, c.Write(rest[:min(n, len(rest))]))
			must(t, c.Write([]byte{}))
		}
		wantAt(t, c, 3000, nil)
		wantSteps(t, f, 3+375)
		wantErases(t, f, 0, 1, 1, 1, 0)
		if !bytes.Equal(f.Peek(1024, 3072), join(data, fill(255, 72))) {
			t.Errorf("pieces of %d bytes: other bytes are written", n)
		}
	}
}

// Bytes held from the flash are programmed with those that complete their word.
func TestP401WriteAmidWord(t *testing.T) {
	f, r := place(t, 1)
	must(t, f.Spoil(1024, []byte{9, 8, 7, 6, 5, 4, 3, 2, 1}))
	c := start(t, r, 5)
	must(t, f.Spoil(1024, fill(255, 9)))
	must(t, c.Write([]byte{1, 2}))
	wantSteps(t, f, 0)
	must(t, c.Write([]byte{3, 4}))
	wantSteps(t, f, 1)
	wantAt(t, c, 9, []byte{4})
	wantAll(t, f, join(fill(255, 1024), []byte{9, 8, 7, 6, 5, 1, 2, 3}, fill(255, 2040)))
}

// Bytes that do not fit are refused, and this is forgotten.
func TestP401WriteTooMuch(t *testing.T) {
	f, r := place(t, 2)
	for _, x := range []struct{ from, left int }{{0, 2048}, {13, 2035}, {2047, 1}, {2048, 0}} {
		c := start(t, r, x.from)
		held := c.Held()
		f.Arm(0, nil)
		for _, n := range []int{x.left + 1, x.left + 8, 5000} {
			wantErr(t, "too much", c.Write(fill(0, n)), api.ErrRange)
			wantAt(t, c, x.from, held)
		}
		if f.Off() {
			t.Fatal("a refused Write is a step")
		}
		cut(t, f)
		wantErr(t, "too much, without power", c.Write(fill(0, x.left+1)), api.ErrRange)
		f.Boot()
		must(t, c.Write(fill(255, x.left)))
		wantAt(t, c, 2048, nil)
		wantErr(t, "at the end", c.Write([]byte{1}), api.ErrRange)
		must(t, c.Write(nil))
		must(t, c.Flush())
	}
	wantAll(t, f, fill(255, 4096))
	wantErases(t, f, 0, 0, 0, 0)
}

// Until a word is complete nothing is asked of the flash.
func TestP401WriteWithoutPower(t *testing.T) {
	f, r := place(t, 1)
	c := start(t, r, 0)
	cut(t, f)
	must(t, c.Write(count(7)))
	wantAt(t, c, 7, count(7))
	wantErr(t, "a word without power", c.Write([]byte{1, 2, 3}), api.ErrCut)
	wantAt(t, c, 8, join(count(7), []byte{1}))
	wantSteps(t, f, 1)
}

func TestP401ArgumentsStay(t *testing.T) {
	f, r := place(t, 1)
	c := start(t, r, 0)
	whole := count(24)
	must(t, c.Write(whole[:13]))
	must(t, c.Flush())
	if !bytes.Equal(whole, count(24)) {
		t.Errorf("the argument has become %v", whole)
	}
	clear(whole)
	wantAt(t, c, 13, count(13)[8:])
	must(t, c.Write(count(16)[13:]))
	wantAll(t, f, join(fill(255, 1024), count(16), fill(255, 2032)))
}

func TestP401Flush(t *testing.T) {
	data := count(8)
	for n := 1; n < 8; n++ {
		f, r := place(t, 2)
		c := start(t, r, 1000)
		must(t, c.Write(data[:n]))
		wantSteps(t, f, 0)
		for k := range 3 { // each time it is programmed
			must(t, c.Flush())
			wantSteps(t, f, k+1)
			wantAt(t, c, 1000+n, data[:n])
			wantAll(t, f, join(fill(255, 2024), data[:n], fill(255, 2072-n)))
		}
		must(t, c.Write(data[n:]))
		wantSteps(t, f, 4)
		wantAt(t, c, 1008, nil)
		wantAll(t, f, join(fill(255, 2024), data, fill(255, 2064)))
		must(t, c.Flush())
		wantSteps(t, f, 4)
	}
}

// Without held bytes Flush asks nothing of the flash.
func TestP401FlushNothing(t *testing.T) {
	f, r := used(t, 2)
	for _, from := range []int{0, 8, 1024, 2048} {
		c := start(t, r, from)
		must(t, c.Flush())
		cut(t, f)
		must(t, c.Flush())
		wantAt(t, c, from, nil)
		f.Boot()
	}
	wantErases(t, f, 0, 0, 0, 0)
	wantSteps(t, f, 4)
}

// Bytes held from the flash are flushed too.
func TestP401FlushAfterNew(t *testing.T) {
	f, r := place(t, 1)
	must(t, f.Spoil(1024, count(13)))
	c := start(t, r, 13)
	must(t, c.Flush())
	wantSteps(t, f, 1)
	wantAt(t, c, 13, count(13)[8:])
	wantAll(t, f, join(fill(255, 1024), count(13), fill(255, 2035)))
	// The padding does not go over a word that has been programmed to its end.
	c = start(t, r, 5)
	wantErr(t, "bytes that cannot", c.Flush(), api.ErrDirty)
	wantAt(t, c, 5, count(5))
	wantAll(t, f, join(fill(255, 1024), count(13), fill(255, 2035)))
}

func TestP402Ahead(t *testing.T) {
	f, r := used(t, 4)
	c := start(t, r, 0)
	for _, x := range []struct {
		n      int
		erases [6]int
	}{
		{7, [6]int{}}, {1, [6]int{0, 1, 1}}, {1016, [6]int{0, 1, 1}}, {7, [6]int{0, 1, 1}},
		{1, [6]int{0, 1, 1, 1}}, {1023, [6]int{0, 1, 1, 1}}, {1, [6]int{0, 1, 1, 1, 1}},
		{1016, [6]int{0, 1, 1, 1, 1}}, {8, [6]int{0, 1, 1, 1, 1}}, {1016, [6]int{0, 1, 1, 1, 1}},
	} {
		must(t, c.Write(fill(0, x.n)))
		wantErases(t, f, x.erases[:]...)
	}
	wantAt(t, c, 4096, nil)
	wantSteps(t, f, 4+512)
	other := join(fill(255, 515), []byte{0}, fill(255, 508))
	wantAll(t, f, join(other, fill(0, 4096), other))
}

// Flush prepares sectors as Write does, and then Write does not do it again.
func TestP402AheadByFlush(t *testing.T) {
	f, r := used(t, 4)
	c := start(t, r, 1024)
	must(t, c.Write([]byte{1}))
	wantErases(t, f, 0, 0, 0, 0, 0, 0)
	must(t, c.Flush())
	wantErases(t, f, 0, 0, 1, 1, 0, 0)
	wantSteps(t, f, 3)
	must(t, c.Flush())
	must(t, c.Write(count(1024)))
	wantErases(t, f, 0, 0, 1, 1, 0, 0)
	must(t, c.Flush())
	wantErases(t, f, 0, 0, 1, 1, 1, 0)
	must(t, c.Write(count(1000)))
	must(t, c.Flush())
	wantErases(t, f, 0, 0, 1, 1, 1, 0)
	if !bytes.Equal(f.Peek(2048, 2025), join([]byte{1}, count(1024), count(1000))) {
		t.Error("other bytes are written")
	}
}

// The sector is erased first, then the next one, and then the word programmed.
func TestP402Order(t *testing.T) {
	for _, byFlush := range []bool{false, true} {
		for after, want := range [][2]int{{1, 0}, {1, 1}, {1, 1}} {
			f, r := used(t, 3)
			c := start(t, r, 0)
			f.Arm(after, fill(1, 1))
			n := 8
			if byFlush {
				n = 3
				must(t, c.Write(fill(0, n)))
				wantErr(t, "Flush", c.Flush(), api.ErrCut)
			} else {
				wantErr(t, "Write", c.Write(fill(0, n)), api.ErrCut)
			}
			wantErases(t, f, 0, want[0], want[1], 0, 0)
			wantSteps(t, f, after+1)
			word := fill(255, 8)
			if after == 2 {
				word = join([]byte{1}, fill(0, n-1), fill(255, 8-n))
			}
			if got := f.Peek(1024, 8); !bytes.Equal(got, word) {
				t.Errorf("cut after %d steps: %v", after, got)
			}
			wantAt(t, c, n, fill(0, n))
		}
	}
}

// A sector that is begun stays as it is, wherever within it the cursor starts.
func TestP402FromWithin(t *testing.T) {
	for _, from := range []int{1025, 1031, 1032, 1033, 1500, 2039, 2040, 2041, 2047} {
		f, r := used(t, 4)
		if from < 1024+520 {
			must(t, f.Spoil(1024+1024+515, fill(255, 1)))
			must(t, f.Spoil(1024+1024+1023, []byte{0})) // behind what is written
		}
		c := start(t, r, from)
		n := 8 - from%8
		must(t, c.Write(fill(0, n)))
		wantErases(t, f, 0, 0, 0, 1, 0, 0)
		wantSteps(t, f, 2)
		must(t, f.Spoil(1024+from+n, fill(255, 2048-from-n)))
		must(t, c.Write(fill(0, 2048-from-n)))
		wantErases(t, f, 0, 0, 0, 1, 0, 0)
		must(t, c.Write(fill(0, 8)))
		wantErases(t, f, 0, 0, 0, 1, 1, 0)
		must(t, c.Write(fill(0, 2040)))
		wantErases(t, f, 0, 0, 0, 1, 1, 0)
	}
}

func TestP402FromBeginning(t *testing.T) {
	for from, want := range map[int][]int{
		0: {0, 1, 1, 0, 0, 0}, 1024: {0, 0, 1, 1, 0, 0}, 2048: {0, 0, 0, 1, 1, 0}, 3072: {0, 0, 0, 0, 1, 0},
	} {
		f, r := used(t, 4)
		c := start(t, r, from)
		wantErases(t, f, 0, 0, 0, 0, 0, 0)
		must(t, c.Write(fill(0, 8)))
		wantErases(t, f, want...)
	}
}

// In the last sector there is no next one, though the flash goes on.
func TestP402LastSector(t *testing.T) {
	f, r := used(t, 1)
	c := start(t, r, 0)
	must(t, c.Write(fill(0, 1024)))
	wantErases(t, f, 0, 1, 0)
	f, r = used(t, 2)
	c = start(t, r, 2047)
	must(t, c.Flush())
	must(t, c.Write([]byte{0}))
	wantErases(t, f, 0, 0, 0, 0)
	wantSteps(t, f, 2)
}

// Which sectors are erased depends on each sector alone.
func TestP402BlankSectors(t *testing.T) {
	for pattern := range 16 {
		f, r := place(t, 4)
		want := [6]int{}
		for s := range 4 {
			if pattern>>s&1 == 1 {
				must(t, f.Spoil(1024*(s+1)+[]int{0, 7, 1016, 1023}[s], []byte{254}))
				want[s+1] = 1
			}
		}
		c := start(t, r, 0)
		must(t, c.Write(count(4096)))
		wantErases(t, f, want[:]...)
		if !bytes.Equal(f.Peek(1024, 4096), count(4096)) {
			t.Errorf("pattern %d: other bytes are written", pattern)
		}
	}
}

// A sector is looked at when it is prepared, and never after that.
func TestP402OnlyOnce(t *testing.T) {
	for _, blank := range []bool{true, false} {
		f, r := used(t, 3)
		erased := 1
		if blank {
			f, r = place(t, 3)
			erased = 0
		}
		c := start(t, r, 0)
		must(t, c.Write(fill(0, 8)))
		must(t, f.Spoil(1024+16, []byte{0}))
		must(t, f.Spoil(2048+16, []byte{0}))
		must(t, f.Spoil(3072+16, []byte{0}))
		must(t, c.Write(fill(0, 1024)))
		wantErases(t, f, 0, erased, erased, 1, 0)
		must(t, c.Write(fill(0, 8)))
		wantErr(t, "what was spoiled behind it", c.Write(fill(1, 8)), api.ErrDirty)
		wantErases(t, f, 0, erased, erased, 1, 0)
	}
}

// Each cursor prepares for itself.
func TestP402TwoCursors(t *testing.T) {
	f, r := used(t, 2)
	c, d := start(t, r, 0), start(t, r, 0)
	must(t, c.Write(fill(0, 8)))
	wantErases(t, f, 0, 1, 1, 0)
	must(t, d.Write(fill(1, 8)))
	wantErases(t, f, 0, 2, 1, 0)
	must(t, c.Write(fill(2, 8)))
	wantErases(t, f, 0, 2, 1, 0)
	wantAll(t, f, join(f.Peek(0, 1024), fill(1, 8), fill(2, 8), fill(255, 2032), f.Peek(3072, 1024)))
}

// wantEnded fails the test unless the cursor tells this error from now on, and
// does nothing more.
func wantEnded(t *testing.T, f *flash.Flash, c *cursor.Cursor, want api.Errno) {
	t.Helper()
	f.Boot()
	at, held, steps, was := c.At(), c.Held(), f.Steps(), f.Peek(0, f.Size())
	for range 2 {
		wantErr(t, "nothing", c.Write(nil), want)
		wantErr(t, "a byte", c.Write([]byte{0}), want)
		wantErr(t, "two words", c.Write(fill(0, 16)), want)
		wantErr(t, "too much", c.Write(fill(0, 9000)), want)
		wantErr(t, "Flush", c.Flush(), want)
	}
	wantAt(t, c, at, held)
	wantSteps(t, f, steps)
	wantAll(t, f, was)
}

// Of 2000 bytes from offset 0 on, the steps are two erasures, the first
// sector's words, an erasure, and more words; each of them may be interrupted.
func TestP403WriteInterrupted(t *testing.T) {
	data := count(2000)
	for after := range 2 + 128 + 1 + 122 {
		f, r := used(t, 3)
		c := start(t, r, 0)
		f.Arm(after, []byte{3})
		wantErr(t, "interrupted", c.Write(data), api.ErrCut)
		words := max(0, after-2)
		if after >= 130 {
			words = after - 3
		}
		if after == 130 { // the third sector's erasure
			words = 128
		}
		wantAt(t, c, 8*words+8, data[8*words:8*words+8])
		wantSteps(t, f, after+1)
		if got := f.Peek(1024, 8*words); !bytes.Equal(got, data[:8*words]) {
			t.Errorf("cut after %d steps: other bytes are written", after)
		}
		wantEnded(t, f, c, api.ErrCut)
	}
	f, r := used(t, 3)
	c := start(t, r, 0)
	f.Arm(2+128+1+122, nil)
	must(t, c.Write(data))
	wantAt(t, c, 2000, nil)
}

func TestP403FlushInterrupted(t *testing.T) {
	for after := range 3 {
		f, r := used(t, 2)
		c := start(t, r, 0)
		must(t, c.Write(count(5)))
		f.Arm(after, nil)
		wantErr(t, "interrupted", c.Flush(), api.ErrCut)
		wantAt(t, c, 5, count(5))
		wantSteps(t, f, after+1)
		wantEnded(t, f, c, api.ErrCut)
	}
}

// Without power, not even whether a sector is blank can be told.
func TestP403WithoutPower(t *testing.T) {
	for _, place := range []func(*testing.T, int) (*flash.Flash, region.Region){place, used} {
		f, r := place(t, 2)
		c, d := start(t, r, 0), start(t, r, 1000)
		must(t, c.Write([]byte{1}))
		cut(t, f)
		wantErr(t, "Flush", c.Flush(), api.ErrCut)
		wantAt(t, c, 1, []byte{1})
		wantErr(t, "Write", d.Write(count(24)), api.ErrCut)
		wantAt(t, d, 1008, count(8))
		wantSteps(t, f, 1)
		wantEnded(t, f, c, api.ErrCut)
		wantEnded(t, f, d, api.ErrCut)
		wantErases(t, f, 0, 0, 0, 0)
	}
}

// The words before the one that cannot be programmed have been programmed.
func TestP403DirtyWord(t *testing.T) {
	f, r := place(t, 1)
	must(t, f.Spoil(1024+516, []byte{1}))
	c := start(t, r, 497)
	wantErr(t, "Write", c.Write(count(40)), api.ErrDirty)
	wantAt(t, c, 520, count(23)[15:])
	wantSteps(t, f, 2)
	left := join(fill(255, 1024+497), count(15), fill(255, 4), []byte{1}, fill(255, 1531))
	wantAll(t, f, left)
	wantEnded(t, f, c, api.ErrDirty)
	c = start(t, r, 512)
	must(t, c.Write(fill(9, 5)))
	wantErr(t, "Flush", c.Flush(), api.ErrDirty)
	wantAt(t, c, 517, fill(9, 5))
	wantAll(t, f, left)
	wantEnded(t, f, c, api.ErrDirty)
	// Another cursor does not know of it.
	must(t, start(t, r, 520).Write(count(8)))
}

func TestP403Nil(t *testing.T) {
	var c *cursor.Cursor
	for range 2 {
		for _, n := range []int{0, 1, 8, 9000} {
			wantErr(t, "Write", c.Write(fill(0, n)), api.ErrArg)
		}
		wantErr(t, "Flush", c.Flush(), api.ErrArg)
		wantAt(t, c, 0, nil)
	}
}

// plain is the chapter word by word, on a flash that is as great as the region.
type plain struct {
	f        *flash.Flash
	at       int
	held     []byte
	prepared map[int]int
	failed   api.Errno
}

func newPlain(f *flash.Flash, from int) *plain {
	p := &plain{f: f, at: from, held: f.Peek(from/8*8, from%8), prepared: map[int]int{}}
	if from%1024 != 0 {
		p.prepared[from/1024] = 1
	}
	return p
}

func (p *plain) program(word []byte) api.Errno {
	begin := p.at - len(p.held)
	for _, s := range []int{begin / 1024, begin/1024 + 1} {
		if s*1024 >= p.f.Size() || p.prepared[s] > 0 {
			continue
		}
		p.prepared[s]++
		b, e := p.f.Read(s*1024, 1024)
		if e == api.OK && !bytes.Equal(b, fill(255, 1024)) {
			e = p.f.Erase(s)
		}
		if e != api.OK {
			p.failed = e
			return e
		}
	}
	p.failed = p.f.Program(begin, word)
	return p.failed
}

func (p *plain) write(b []byte) api.Errno {
	if p.failed != api.OK {
		return p.failed
	}
	if p.at+len(b) > p.f.Size() {
		return api.ErrRange
	}
	for _, x := range b {
		p.held = append(p.held, x)
		p.at++
		if len(p.held) == 8 {
			if e := p.program(p.held); e != api.OK {
				return e
			}
			p.held = nil
		}
	}
	return api.OK
}

func (p *plain) flush() api.Errno {
	if p.failed != api.OK || len(p.held) == 0 {
		return p.failed
	}
	return p.program(join(p.held, fill(255, 8-len(p.held))))
}

// play holds a cursor against a plain one: the two answer the same.
type play struct {
	*rand.Rand
	f     *flash.Flash
	first int
	r     region.Region
	c     *cursor.Cursor
	p     *plain
}

func (y *play) bytes(n int) []byte {
	b := make([]byte, n)
	for i := range b {
		b[i] = byte(y.Uint32() & y.Uint32())
	}
	return b
}

// restart begins again, at any offset, with power on.
func (y *play) restart() (got, want api.Errno) {
	y.f.Boot()
	y.p.f.Boot()
	from := y.IntN(3 * 1024)
	if y.IntN(3) == 0 {
		from = 1024 * y.IntN(4)
	}
	y.p = newPlain(y.p.f, from)
	y.c, got = cursor.New(y.r, from)
	return got, api.OK
}

// both performs one operation on the two, and tells the errors.
func (y *play) both() (got, want api.Errno) {
	switch y.IntN(10) {
	case 0, 1, 2, 3:
		b := y.bytes(y.IntN(700))
		return y.c.Write(b), y.p.write(b)
	case 4, 5:
		b := y.bytes(y.IntN(9))
		return y.c.Write(b), y.p.write(b)
	case 6, 7:
		return y.c.Flush(), y.p.flush()
	case 8:
		after, pick := y.IntN(400), y.bytes(y.IntN(1100))
		y.f.Arm(after, pick)
		y.p.f.Arm(after, pick)
		return api.OK, api.OK
	}
	if y.IntN(2) == 0 {
		return y.restart()
	}
	at, b := y.IntN(3000), y.bytes(y.IntN(3))
	return y.f.Spoil(1024*y.first+at, b), y.p.f.Spoil(at, b)
}

func TestP401P402P403Plays(t *testing.T) {
	for seed := range 60 {
		y := &play{Rand: rand.New(rand.NewPCG(4, uint64(seed))), f: flash.New(6)}
		y.p = &plain{f: flash.New(3)}
		y.first = y.IntN(4)
		rest := y.bytes(6144)
		must(t, y.f.Spoil(0, rest))
		from, to := 1024*y.first, 1024*y.first+3072
		must(t, y.p.f.Spoil(0, rest[from:to]))
		r, e := region.Of(y.f, y.first, 3)
		must(t, e)
		y.r = r
		y.restart()
		for range 100 {
			got, want := y.both()
			wantErr(t, "an operation", got, want)
			wantAt(t, y.c, y.p.at, y.p.held)
			wantAll(t, y.f, join(rest[:from], y.p.f.Peek(0, 3072), rest[to:]))
			wantSteps(t, y.f, y.p.f.Steps())
			for s := range 3 {
				if y.f.Erases(y.first+s) != y.p.f.Erases(s) {
					t.Errorf("sector %d is erased %d times, want %d", s, y.f.Erases(y.first+s), y.p.f.Erases(s))
				}
			}
			if t.Failed() {
				t.Fatalf("seed %d", seed)
			}
		}
	}
}
