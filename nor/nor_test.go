package nor_test

import (
	"bytes"
	"math"
	"testing"

	"bootjack/nor"
)

// bits lists the values of a byte whose pairs and triples show every relation
// of three bits, in the lowest, a middle and the highest place.
var bits = []byte{0, 1, 2, 3, 8, 9, 127, 128, 129, 136, 176, 240, 254, 255}

func TestP101Blank(t *testing.T) {
	for _, x := range []struct{ n, want int }{
		{math.MinInt, 0}, {-1, 0}, {0, 0}, {1, 1}, {8, 8}, {1024, 1024},
		{65535, 65535}, {65536, 65536}, {65537, 65536}, {math.MaxInt, 65536},
	} {
		b := nor.Blank(x.n)
		if len(b) != x.want {
			t.Errorf("Blank(%d): %d bytes, want %d", x.n, len(b), x.want)
		}
		if bytes.Count(b, []byte{255}) != len(b) {
			t.Errorf("Blank(%d): not all bytes are 255", x.n)
		}
	}
}

func TestP101BlankIsNew(t *testing.T) {
	b := nor.Blank(8)
	clear(b)
	if !bytes.Equal(nor.Blank(8), bytes.Repeat([]byte{255}, 8)) {
		t.Error("writing to one result of Blank changed another")
	}
}

func TestP101IsBlank(t *testing.T) {
	if !nor.IsBlank(nil) || !nor.IsBlank([]byte{}) {
		t.Error("an empty slice is not blank")
	}
	for n := 1; n <= 9; n++ {
		b := bytes.Repeat([]byte{255}, n)
		if !nor.IsBlank(b) {
			t.Errorf("%d bytes 255 are not blank", n)
		}
		for i := range b {
			for x := range 255 {
				b[i] = byte(x)
				if nor.IsBlank(b) {
					t.Errorf("%v is blank", b)
				}
			}
			b[i] = 255
		}
	}
}

// canBit tells, bit by bit, what Can tells of a byte.
func canBit(old, now byte) bool {
	for k := range 8 {
		if now>>k&1 == 1 && old>>k&1 == 0 {
			return false
		}
	}
	return true
}

func TestP101EveryByte(t *testing.T) {
	for o := range 256 {
		for n := range 256 {
			old, now := []byte{byte(o)}, []byte{byte(n)}
			want := canBit(byte(o), byte(n))
			if got := nor.Can(old, now); got != want {
				t.Fatalf("Can(%d, %d): %v", o, n, got)
			}
			content := nor.Program(old, now)
			if want && !bytes.Equal(content, now) {
				t.Fatalf("Program(%d, %d): %v", o, n, content)
			}
			if !want && len(content) != 0 {
				t.Fatalf("Program(%d, %d): %v, want none", o, n, content)
			}
		}
	}
}

// each lists pairs of contents with and without a way from old to now.
var each = []struct {
	old, now []byte
	can      bool
}{
	{nil, nil, true},
	{nil, []byte{}, true},
	{[]byte{}, nil, true},
	{nil, []byte{0}, false},
	{[]byte{0}, nil, false},
	{[]byte{255}, []byte{0, 0}, false},
	{[]byte{255, 255}, []byte{0}, false},
	{[]byte{240}, []byte{48}, true},
	{[]byte{48}, []byte{240}, false},
	{[]byte{255, 255, 255}, []byte{1, 2, 3}, true},
	{[]byte{1, 2, 3}, []byte{1, 2, 3}, true},
	{[]byte{1, 2, 3}, []byte{0, 0, 0}, true},
	{[]byte{0, 255, 255}, []byte{1, 0, 0}, false},
	{[]byte{255, 0, 255}, []byte{0, 1, 0}, false},
	{[]byte{255, 255, 0}, []byte{0, 0, 128}, false},
}

func TestP101Slices(t *testing.T) {
	for _, x := range each {
		if got := nor.Can(x.old, x.now); got != x.can {
			t.Errorf("Can(%v, %v): %v", x.old, x.now, got)
		}
		want := x.now
		if !x.can {
			want = nil
		}
		if got := nor.Program(x.old, x.now); !bytes.Equal(got, want) {
			t.Errorf("Program(%v, %v): %v, want %v", x.old, x.now, got, want)
		}
	}
}

func TestP101ProgramIsCopy(t *testing.T) {
	old, now := []byte{255, 255}, []byte{1, 2}
	got := nor.Program(old, now)
	now[0] = 7
	if !bytes.Equal(got, []byte{1, 2}) {
		t.Errorf("the result follows an argument: %v", got)
	}
	clear(got)
	if !bytes.Equal(old, []byte{255, 255}) || !bytes.Equal(now, []byte{7, 2}) {
		t.Errorf("an argument follows the result: %v, %v", old, now)
	}
}

func TestP102TornByte(t *testing.T) {
	for o := range 256 {
		for n := range 256 {
			for _, p := range bits {
				old, now := byte(o), byte(n)
				got := nor.Torn([]byte{old}, []byte{now}, []byte{p})
				if !canBit(old, now) {
					if len(got) != 0 {
						t.Fatalf("Torn(%d, %d, %d): %v, want none", o, n, p, got)
					}
					continue
				}
				want := now
				for k := range 8 {
					if old>>k&1 == 1 && now>>k&1 == 0 && p>>k&1 == 1 {
						want |= 1 << k
					}
				}
				if !bytes.Equal(got, []byte{want}) {
					t.Fatalf("Torn(%d, %d, %d): %v, want %d", o, n, p, got, want)
				}
			}
		}
	}
}

func TestP102TornPick(t *testing.T) {
	old, now := []byte{255, 240, 15}, []byte{1, 48, 0}
	for _, x := range []struct{ pick, want []byte }{
		{nil, []byte{1, 48, 0}},
		{[]byte{}, []byte{1, 48, 0}},
		{[]byte{128}, []byte{129, 48, 0}},
		{[]byte{0, 128}, []byte{1, 176, 0}},
		{[]byte{255, 255, 255}, []byte{255, 240, 15}},
		{[]byte{0, 0, 3, 255, 255}, []byte{1, 48, 3}},
	} {
		if got := nor.Torn(old, now, x.pick); !bytes.Equal(got, x.want) {
			t.Errorf("Torn(%v, %v, %v): %v, want %v", old, now, x.pick, got, x.want)
		}
	}
}

func TestP102TornImpossible(t *testing.T) {
	for _, x := range each {
		for _, pick := range [][]byte{nil, {0}, {255, 255, 255, 255}} {
			got := nor.Torn(x.old, x.now, pick)
			if !x.can && len(got) != 0 {
				t.Errorf("Torn(%v, %v, %v): %v, want none", x.old, x.now, pick, got)
			}
			if x.can && len(got) != len(x.old) {
				t.Errorf("Torn(%v, %v, %v): %v", x.old, x.now, pick, got)
			}
		}
	}
}

func TestP102BetweenByte(t *testing.T) {
	for _, old := range bits {
		for _, now := range bits {
			for s := range 256 {
				seen := byte(s)
				want := canBit(old, now) && canBit(seen, now) && canBit(old, seen)
				if got := nor.Between([]byte{old}, []byte{now}, []byte{seen}); got != want {
					t.Fatalf("Between(%d, %d, %d): %v", old, now, seen, got)
				}
			}
		}
	}
}

func TestP102BetweenSlices(t *testing.T) {
	for _, x := range []struct {
		old, now, seen []byte
		want           bool
	}{
		{nil, nil, nil, true},
		{nil, nil, []byte{}, true},
		{nil, nil, []byte{0}, false},
		{nil, []byte{0}, nil, false},
		{[]byte{0}, nil, nil, false},
		{nil, []byte{0}, []byte{0}, false},
		{[]byte{0}, nil, []byte{0}, false},
		{[]byte{0}, []byte{0}, nil, false},
		{[]byte{0}, []byte{0}, []byte{0, 0}, false},
		{[]byte{255, 255}, []byte{0, 0}, []byte{5, 9}, true},
		{[]byte{255, 255}, []byte{0, 0}, []byte{5}, false},
		{[]byte{255, 240}, []byte{0, 48}, []byte{5, 176}, true},
		{[]byte{255, 240}, []byte{0, 48}, []byte{5, 177}, false},
		{[]byte{255, 240}, []byte{0, 48}, []byte{5, 160}, false},
		{[]byte{15, 255}, []byte{16, 0}, []byte{31, 0}, false},
		{[]byte{15, 255}, []byte{16, 0}, []byte{16, 0}, false},
		{[]byte{15, 255}, []byte{16, 0}, []byte{15, 255}, false},
	} {
		if got := nor.Between(x.old, x.now, x.seen); got != x.want {
			t.Errorf("Between(%v, %v, %v): %v", x.old, x.now, x.seen, got)
		}
	}
}

func TestP102HalfByte(t *testing.T) {
	for o := range 256 {
		for p := range 256 {
			want := byte(0)
			for k := range 8 {
				if o>>k&1 == 1 || p>>k&1 == 1 {
					want |= 1 << k
				}
			}
			if got := nor.Half([]byte{byte(o)}, []byte{byte(p)}); !bytes.Equal(got, []byte{want}) {
				t.Fatalf("Half(%d, %d): %v, want %d", o, p, got, want)
			}
		}
	}
}

func TestP102HalfPick(t *testing.T) {
	for _, x := range []struct{ old, pick, want []byte }{
		{nil, nil, nil},
		{nil, []byte{255}, nil},
		{[]byte{1, 2}, nil, []byte{1, 2}},
		{[]byte{1, 2}, []byte{128}, []byte{129, 2}},
		{[]byte{1, 2}, []byte{0, 4}, []byte{1, 6}},
		{[]byte{1, 2}, []byte{6, 0, 255, 255}, []byte{7, 2}},
		{[]byte{1, 2}, []byte{255, 255}, []byte{255, 255}},
	} {
		if got := nor.Half(x.old, x.pick); !bytes.Equal(got, x.want) {
			t.Errorf("Half(%v, %v): %v, want %v", x.old, x.pick, got, x.want)
		}
	}
}

func TestP102RisenByte(t *testing.T) {
	for o := range 256 {
		for s := range 256 {
			want := canBit(byte(s), byte(o))
			if got := nor.Risen([]byte{byte(o)}, []byte{byte(s)}); got != want {
				t.Fatalf("Risen(%d, %d): %v", o, s, got)
			}
		}
	}
}

func TestP102RisenSlices(t *testing.T) {
	for _, x := range []struct {
		old, seen []byte
		want      bool
	}{
		{nil, nil, true},
		{nil, []byte{}, true},
		{nil, []byte{255}, false},
		{[]byte{0}, nil, false},
		{[]byte{0}, []byte{255, 255}, false},
		{[]byte{0, 0}, []byte{255}, false},
		{[]byte{0, 1, 2}, []byte{0, 1, 2}, true},
		{[]byte{0, 1, 2}, []byte{255, 255, 255}, true},
		{[]byte{0, 1, 2}, []byte{255, 255, 1}, false},
		{[]byte{1, 0, 0}, []byte{0, 255, 255}, false},
	} {
		if got := nor.Risen(x.old, x.seen); got != x.want {
			t.Errorf("Risen(%v, %v): %v", x.old, x.seen, got)
		}
	}
}

// spare is a slice of b's bytes with bytes 170 behind them that nobody may
// change.
func spare(b ...byte) []byte {
	return append(append(make([]byte, 0, len(b)+8), b...), bytes.Repeat([]byte{170}, 8)...)[:len(b)]
}

func TestP101P102ArgumentsStay(t *testing.T) {
	old, now, seen, pick := spare(255, 240), spare(1, 48), spare(3, 112), spare(85, 170)
	all := [][]byte{old, now, seen, pick}
	was := make([][]byte, len(all))
	for i, b := range all {
		was[i] = bytes.Clone(b[:cap(b)])
	}
	results := [][]byte{
		nor.Program(old, now), nor.Torn(old, now, pick), nor.Torn(old, now, nil),
		nor.Half(old, pick), nor.Half(old, nil),
	}
	nor.IsBlank(old)
	nor.Can(old, now)
	nor.Between(old, now, seen)
	nor.Risen(old, seen)
	for _, b := range results {
		clear(b[:cap(b)])
	}
	for i, b := range all {
		if !bytes.Equal(b[:cap(b)], was[i]) {
			t.Errorf("argument %d has become %v, was %v", i, b[:cap(b)], was[i])
		}
	}
}
