package seal_test

import (
	"bytes"
	"hash/crc32"
	"math"
	"math/rand/v2"
	"testing"

	"bootjack/api"
	"bootjack/nor"
	"bootjack/seal"
)

// fill is n bytes of the value x.
func fill(x byte, n int) []byte { return bytes.Repeat([]byte{x}, n) }

// join is all parts in one slice.
func join(parts ...[]byte) []byte { return bytes.Join(parts, nil) }

// count is n bytes by which places can be told apart.
func count(n int) []byte {
	b := make([]byte, n)
	for i := range b {
		b[i] = byte((i*7 + i>>8 + 1) % 251)
	}
	return b
}

// random is n bytes from p.
func random(p *rand.Rand, n int) []byte {
	b := make([]byte, n)
	for i := range b {
		b[i] = byte(p.Uint32())
	}
	return b
}

// sealed is b and the last word that makes it an encoding, if b begins as one.
func sealed(b []byte) []byte {
	sum := crc32.ChecksumIEEE(b)
	b = bytes.Clone(b)
	for _, x := range []uint32{sum, ^sum} {
		b = append(b, byte(x), byte(x>>8), byte(x>>16), byte(x>>24))
	}
	return b
}

// padded is b with bytes 0 up to whole words.
func padded(b []byte) []byte {
	b = bytes.Clone(b)
	for len(b)%8 != 0 {
		b = append(b, 0)
	}
	return b
}

// encoding is what the chapter says of the encoding of a valid record.
func encoding(r api.Record) []byte {
	n, s := len(r.Body), r.Seq
	first := []byte{byte(r.Kind), 0, byte(n), byte(n >> 8), byte(s), byte(s >> 8), byte(s >> 16), byte(s >> 24)}
	return sealed(join(first, padded(r.Body)))
}

// wantGet fails the test unless b begins with the encoding of r, which has n
// bytes.
func wantGet(t *testing.T, b []byte, r api.Record, n int) {
	t.Helper()
	got, size, ok := seal.Get(b)
	if !ok || size != n {
		t.Fatalf("Get of %d bytes: %d, %v; want %d", len(b), size, ok, n)
	}
	if got.Kind != r.Kind || got.Seq != r.Seq || !bytes.Equal(got.Body, r.Body) {
		t.Fatalf("Get: %v, want %v", got, r)
	}
}

// wantNone fails the test unless b begins with no encoding.
func wantNone(t *testing.T, what string, b []byte) {
	t.Helper()
	r, n, ok := seal.Get(b)
	if ok || n != 0 || r.Kind != 0 || r.Seq != 0 || len(r.Body) != 0 {
		t.Errorf("Get of %s: %v, %d, %v; want none", what, r, n, ok)
	}
}

func TestP501Table(t *testing.T) {
	table := seal.Table()
	for i := range 256 {
		// The eight steps, without a branch.
		want := uint32(i)
		for range 8 {
			want = want>>1 ^ 0xEDB88320*(want%2)
		}
		if table[i] != want {
			t.Errorf("Table of %d: %x, want %x", i, table[i], want)
		}
	}
	if *crc32.IEEETable != table {
		t.Error("Table is not the table of CRC-32")
	}
	for i, want := range map[int]uint32{0: 0, 1: 0x77073096, 128: 0xEDB88320, 255: 0x2D02EF8D} {
		if table[i] != want {
			t.Errorf("Table of %d: %x, want %x", i, table[i], want)
		}
	}
}

func TestP501TableIsNew(t *testing.T) {
	table := seal.Table()
	clear(table[:])
	if seal.Table() != *crc32.IEEETable || seal.Sum([]byte("123456789")) != 0xCBF43926 {
		t.Error("writing to one result of Table changed another")
	}
}

func TestP501Sum(t *testing.T) {
	for _, x := range []struct {
		b    []byte
		want uint32
	}{
		{nil, 0},
		{[]byte{}, 0},
		{[]byte{0}, 0xD202EF8D},
		{[]byte{255}, 0xFF000000},
		{fill(255, 4), 0xFFFFFFFF},
		{fill(0, 4), 0x2144DF1C},
		{[]byte("123456789"), 0xCBF43926},
		{[]byte("The quick brown fox jumps over the lazy dog"), 0x414FA339},
	} {
		if got := seal.Sum(x.b); got != x.want {
			t.Errorf("Sum of %v: %x, want %x", x.b, got, x.want)
		}
	}
}

func TestP501SumOfMany(t *testing.T) {
	for i := range 256 {
		b := []byte{byte(i)}
		if got, want := seal.Sum(b), crc32.ChecksumIEEE(b); got != want {
			t.Errorf("Sum of %v: %x, want %x", b, got, want)
		}
	}
	p := rand.New(rand.NewPCG(5, 1))
	for n := range 1100 {
		b := random(p, n)
		if got, want := seal.Sum(b), crc32.ChecksumIEEE(b); got != want {
			t.Fatalf("Sum of %d bytes: %x, want %x", n, got, want)
		}
	}
}

func TestP502Size(t *testing.T) {
	for n := range 513 {
		if got, want := seal.Size(n), 16+(n+7)/8*8; got != want {
			t.Errorf("Size(%d): %d, want %d", n, got, want)
		}
	}
	for _, n := range []int{math.MinInt, math.MinInt + 7, -65536, -512, -8, -7, -1, 513, 514, 520, 1024, 65535, 65536, math.MaxInt - 7, math.MaxInt} {
		if got := seal.Size(n); got != 0 {
			t.Errorf("Size(%d): %d, want 0", n, got)
		}
	}
}

func TestP502PutBytes(t *testing.T) {
	for _, x := range []struct {
		r    api.Record
		rest []byte // behind which the checksum stands
	}{
		{api.Record{Kind: 1}, []byte{1, 0, 0, 0, 0, 0, 0, 0}},
		{api.Record{Kind: 250, Seq: 0xF4E3D2C1}, []byte{250, 0, 0, 0, 0xC1, 0xD2, 0xE3, 0xF4}},
		{api.Record{Kind: 2, Seq: 256, Body: []byte{7}}, []byte{2, 0, 1, 0, 0, 1, 0, 0, 7, 0, 0, 0, 0, 0, 0, 0}},
		{api.Record{Kind: 3, Seq: 5, Body: count(7)}, join([]byte{3, 0, 7, 0, 5, 0, 0, 0}, count(7), []byte{0})},
		{api.Record{Kind: 3, Seq: 5, Body: count(8)}, join([]byte{3, 0, 8, 0, 5, 0, 0, 0}, count(8))},
		{api.Record{Kind: 3, Seq: 5, Body: count(9)}, join([]byte{3, 0, 9, 0, 5, 0, 0, 0}, count(9), fill(0, 7))},
		{api.Record{Kind: 4, Seq: 1, Body: fill(255, 300)}, join([]byte{4, 0, 44, 1, 1, 0, 0, 0}, fill(255, 300), fill(0, 4))},
		{api.Record{Kind: 4, Seq: 1, Body: count(512)}, join([]byte{4, 0, 0, 2, 1, 0, 0, 0}, count(512))},
	} {
		if got, want := seal.Put(x.r), sealed(x.rest); !bytes.Equal(got, want) {
			t.Errorf("Put of %v: %v, want %v", x.r, got, want)
		}
	}
	// One encoding, whole.
	want := []byte{1, 0, 2, 0, 3, 0, 0, 0, 4, 5, 0, 0, 0, 0, 0, 0, 0xC4, 0xED, 0x51, 0x02, 0x3B, 0x12, 0xAE, 0xFD}
	if got := seal.Put(api.Record{Kind: 1, Seq: 3, Body: []byte{4, 5}}); !bytes.Equal(got, want) {
		t.Errorf("Put: %x, want %x", got, want)
	}
}

func TestP502EachSize(t *testing.T) {
	for n := range 513 {
		r := api.Record{Kind: 1 + n%250, Seq: n * 8191, Body: count(n)}
		b := seal.Put(r)
		if !bytes.Equal(b, encoding(r)) || len(b) != seal.Size(n) {
			t.Fatalf("Put of a body of %d bytes: %v", n, b)
		}
		wantGet(t, b, r, len(b))
	}
}

func TestP502EachKind(t *testing.T) {
	for kind := -300; kind <= 600; kind++ {
		r := api.Record{Kind: kind, Seq: 9, Body: []byte{1, 2}}
		wantValid(t, r, kind >= 1 && kind <= 250)
	}
	for _, kind := range []int{math.MinInt, math.MinInt + 1, -1 << 32, -1<<32 + 1, 1 << 32, 1<<32 + 1, 1<<16 + 1, math.MaxInt} {
		wantValid(t, api.Record{Kind: kind}, false)
	}
}

func TestP502EachSeq(t *testing.T) {
	for bit := range 32 {
		wantValid(t, api.Record{Kind: 1, Seq: 1 << bit}, true)
		wantValid(t, api.Record{Kind: 1, Seq: 1<<bit - 1}, true)
		wantValid(t, api.Record{Kind: 1, Seq: -1 << bit}, false)
	}
	wantValid(t, api.Record{Kind: 1, Seq: math.MaxUint32}, true)
	for bit := 32; bit < 63; bit++ {
		wantValid(t, api.Record{Kind: 1, Seq: 1 << bit}, false)
		wantValid(t, api.Record{Kind: 1, Seq: 1<<bit + 1}, false)
		wantValid(t, api.Record{Kind: 1, Seq: -1<<bit + 1}, false)
	}
	for _, seq := range []int{math.MinInt, math.MinInt + 1, math.MaxInt} {
		wantValid(t, api.Record{Kind: 1, Seq: seq}, false)
	}
}

func TestP502LongBody(t *testing.T) {
	wantValid(t, api.Record{Kind: 1, Body: count(512)}, true)
	for _, n := range []int{513, 519, 520, 521, 1024, 65535, 65536, 65537, 65544, 1 << 20} {
		wantValid(t, api.Record{Kind: 1, Body: count(n)}, false)
	}
}

// wantValid fails the test unless r has an encoding, from which Get gets it, or
// has none.
func wantValid(t *testing.T, r api.Record, valid bool) {
	t.Helper()
	b := seal.Put(r)
	if !valid {
		if len(b) != 0 {
			t.Errorf("Put of kind %d, seq %d, %d bytes: %d bytes, want none", r.Kind, r.Seq, len(r.Body), len(b))
		}
		return
	}
	if !bytes.Equal(b, encoding(r)) {
		t.Fatalf("Put of %v: %v", r, b)
	}
	wantGet(t, b, r, len(b))
}

func TestP502GetPrefix(t *testing.T) {
	for _, n := range []int{0, 1, 7, 8, 9, 100, 512} {
		r := api.Record{Kind: 17, Seq: 70000, Body: count(n)}
		b := seal.Put(r)
		for _, more := range [][]byte{{0}, {255}, fill(0, 100), nor.Blank(100), b, count(2000)} {
			wantGet(t, join(b, more), r, len(b))
		}
		for cut := range b {
			wantNone(t, "a part", b[:cut])
			wantNone(t, "a part that has spare capacity", b[:cut:cut])
			wantNone(t, "a part before blank bytes", join(b[:cut], nor.Blank(1000)))
			if cut > 0 {
				wantNone(t, "what begins within", b[cut:])
			}
		}
	}
}

func TestP502GetOthers(t *testing.T) {
	for n := range 600 {
		wantNone(t, "blank bytes", nor.Blank(n))
		wantNone(t, "bytes 0", fill(0, n))
		wantNone(t, "others", count(n))
	}
	wantNone(t, "nothing", nil)
	wantNone(t, "many blank bytes", nor.Blank(65536))
	// The sum of no bytes is 0, but a first word is never missing.
	wantNone(t, "a checksum alone", sealed(nil))
}

// Their checksums are right, but no valid record has these encodings.
func TestP502GetNoRecord(t *testing.T) {
	for _, x := range []struct {
		what string
		rest []byte
	}{
		{"kind 0", []byte{0, 0, 0, 0, 1, 0, 0, 0}},
		{"kind 251", []byte{251, 0, 0, 0, 1, 0, 0, 0}},
		{"kind 254", []byte{254, 0, 0, 0, 1, 0, 0, 0}},
		{"kind 255", []byte{255, 0, 0, 0, 1, 0, 0, 0}},
		{"a second byte of 1", []byte{1, 1, 0, 0, 1, 0, 0, 0}},
		{"a second byte of 128", []byte{1, 128, 0, 0, 1, 0, 0, 0}},
		{"a second byte of 255", []byte{1, 255, 0, 0, 1, 0, 0, 0}},
		{"513 bytes", join([]byte{1, 0, 1, 2, 1, 0, 0, 0}, fill(7, 513), fill(0, 7))},
		{"520 bytes", join([]byte{1, 0, 8, 2, 1, 0, 0, 0}, fill(7, 520))},
		{"1024 bytes", join([]byte{1, 0, 0, 4, 1, 0, 0, 0}, fill(7, 1024))},
		{"65528 bytes", join([]byte{1, 0, 248, 255, 1, 0, 0, 0}, fill(7, 65528))},
		{"65535 bytes", join([]byte{1, 0, 255, 255, 1, 0, 0, 0}, fill(7, 65535), []byte{0})},
		{"a length that is one word short", join([]byte{1, 0, 8, 0, 1, 0, 0, 0}, fill(7, 16))},
		{"a length that is one word long", join([]byte{1, 0, 8, 0, 1, 0, 0, 0})},
		{"a first word that is cut", []byte{1, 0, 0, 0}},
		{"no padding", []byte{1, 0, 3, 0, 1, 0, 0, 0, 7, 7, 7}},
	} {
		wantNone(t, x.what, sealed(x.rest))
	}
	for i := 3; i < 8; i++ {
		for _, x := range []byte{1, 128, 255} {
			rest := []byte{1, 0, 3, 0, 1, 0, 0, 0, 7, 7, 7, 0, 0, 0, 0, 0}
			rest[8+i] = x
			wantNone(t, "padding that is not 0", sealed(rest))
		}
	}
	wantNone(t, "padding of blank bytes", sealed(join([]byte{1, 0, 3, 0, 1, 0, 0, 0, 7, 7, 7}, nor.Blank(5))))
}

// Any other bit, and any other byte, of an encoding makes it none.
func TestP502GetChanged(t *testing.T) {
	for _, n := range []int{0, 1, 8, 13, 40} {
		b := seal.Put(api.Record{Kind: 21, Seq: 77, Body: count(n)})
		for i := range b {
			was := b[i]
			for x := range 256 {
				if b[i] = byte(x); b[i] != was {
					wantNone(t, "an encoding with another byte", join(b, nor.Blank(600)))
				}
			}
			b[i] = was
		}
	}
}

// Both halves of the last word are held against the checksum.
func TestP502GetLastWord(t *testing.T) {
	rest := []byte{1, 0, 2, 0, 3, 0, 0, 0, 4, 5, 0, 0, 0, 0, 0, 0}
	b := sealed(rest)
	sum, not := b[16:20], b[20:24]
	wantGet(t, b, api.Record{Kind: 1, Seq: 3, Body: []byte{4, 5}}, 24)
	big := bytes.Clone(sum)
	big[0], big[1], big[2], big[3] = sum[3], sum[2], sum[1], sum[0]
	for _, last := range [][]byte{
		join(not, sum), join(sum, sum), join(not, not), join(sum, fill(0, 4)), join(sum, fill(255, 4)),
		join(fill(0, 4), not), join(fill(255, 4), not), join(fill(0, 4), fill(255, 4)), join(fill(255, 4), fill(0, 4)),
		join(big, not), fill(0, 8), fill(255, 8),
	} {
		wantNone(t, "another last word", join(rest, last))
	}
	other := sealed(count(16))[16:] // a checksum and its complement, of other bytes
	wantNone(t, "the last word of another", join(rest, other))
}

// likely is bytes that often begin with an encoding, and often nearly.
func likely(p *rand.Rand) []byte {
	n := p.IntN(40)
	first := random(p, 8)
	first[1], first[2], first[3] = byte(p.IntN(8)/7), byte(n), byte(p.IntN(8)/7)
	body := padded(random(p, n))
	if p.IntN(8) == 0 {
		body = random(p, len(body))
	}
	b := sealed(join(first, body))
	if p.IntN(4) == 0 {
		b = sealed(random(p, p.IntN(64)))
	}
	if p.IntN(4) == 0 {
		b[p.IntN(len(b))] ^= 1 << p.IntN(8)
	}
	if p.IntN(4) == 0 {
		return b[:p.IntN(len(b))]
	}
	return append(b, random(p, p.IntN(20))...)
}

// An encoding is found exactly where the chapter's three parts stand.
func TestP502GetAnything(t *testing.T) {
	p := rand.New(rand.NewPCG(5, 2))
	found := 0
	for range 20000 {
		b := likely(p)
		r, n, ok := seal.Get(b)
		want := len(b) >= 16 && b[0] >= 1 && b[0] <= 250 && b[1] == 0
		if want {
			body := int(b[2]) + 256*int(b[3])
			end := 8 + (body+7)/8*8
			want = body <= 512 && end+8 <= len(b) && bytes.Equal(padded(b[8:8+body]), b[8:end]) && bytes.Equal(sealed(b[:end]), b[:end+8])
		}
		if ok != want || ok && !bytes.Equal(encoding(r), b[:n]) {
			t.Fatalf("Get of %v: %v, %d, %v", b, r, n, ok)
		}
		if ok {
			found++
		}
	}
	if found < 2000 || found > 18000 {
		t.Errorf("%d of 20000 are encodings: too few or too many to tell", found)
	}
}

// spare is a slice of b's bytes with bytes 170 behind them that nobody may
// change.
func spare(b []byte) []byte {
	return append(append(make([]byte, 0, len(b)+16), b...), fill(170, 16)...)[:len(b)]
}

func TestP502ArgumentsStay(t *testing.T) {
	for _, n := range []int{0, 1, 8, 11} {
		body := spare(count(n))
		r := api.Record{Kind: 6, Seq: 12, Body: body}
		b := spare(seal.Put(r))
		was := bytes.Clone(b[:cap(b)])
		got, _, _ := seal.Get(b)
		seal.Sum(b)
		if !bytes.Equal(body[:cap(body)], join(count(n), fill(170, 16))) || r.Kind != 6 || r.Seq != 12 || len(r.Body) != n {
			t.Fatalf("the record has become %v", r)
		}
		if !bytes.Equal(b[:cap(b)], was) {
			t.Fatalf("the bytes have become %v", b[:cap(b)])
		}
		clear(body[:cap(body)])
		if !bytes.Equal(b[:cap(b)], was) {
			t.Fatal("an encoding follows the record")
		}
		clear(b[:cap(b)])
		if !bytes.Equal(got.Body, count(n)) {
			t.Fatalf("a body follows the encoding: %v", got.Body)
		}
		clear(append(got.Body, 1, 2, 3))
		if !bytes.Equal(b[:cap(b)], fill(0, len(was))) {
			t.Fatal("the encoding follows a body")
		}
	}
}

func TestP502ResultsAreNew(t *testing.T) {
	r := api.Record{Kind: 6, Seq: 12, Body: count(10)}
	b, again := seal.Put(r), seal.Put(r)
	want := bytes.Clone(b)
	one, _, _ := seal.Get(b)
	two, _, _ := seal.Get(b)
	clear(again)
	clear(one.Body)
	if !bytes.Equal(b, want) || !bytes.Equal(two.Body, count(10)) || !bytes.Equal(r.Body, count(10)) {
		t.Error("writing to one result changed another")
	}
}

// torn is b of which the words before at are programmed, and of the word there
// what pick leaves.
func torn(b []byte, at int, pick []byte) []byte {
	left := nor.Torn(nor.Blank(8), b[at:at+8], pick)
	return join(b[:at], left, nor.Blank(len(b)-at-8))
}

// picks lists what may remain of a word: each bit alone, each bit but one, each
// byte, and some more.
func picks(p *rand.Rand) [][]byte {
	l := [][]byte{nil, fill(255, 8), fill(85, 8), fill(170, 8)}
	for bit := range 64 {
		one := fill(0, 8)
		one[bit/8] = 1 << (bit % 8)
		rest := fill(255, 8)
		rest[bit/8] ^= one[bit/8]
		l = append(l, one, rest, fill(255, bit%8))
	}
	for range 60 {
		l = append(l, random(p, 8))
	}
	return l
}

func TestP503Interrupted(t *testing.T) {
	p := rand.New(rand.NewPCG(5, 3))
	for _, r := range []api.Record{
		{Kind: 1}, {Kind: 250, Seq: math.MaxUint32}, {Kind: 128, Seq: 1, Body: []byte{0}},
		{Kind: 1, Seq: 1, Body: nor.Blank(8)}, {Kind: 2, Seq: 9, Body: fill(0, 24)},
		{Kind: 3, Seq: 1000, Body: count(33)}, {Kind: 4, Seq: 2, Body: count(511)},
		{Kind: 7, Seq: 3, Body: seal.Put(api.Record{Kind: 1, Seq: 1})},
	} {
		b := seal.Put(r)
		for at := 0; at < len(b); at += 8 {
			for _, pick := range picks(p) {
				left := torn(b, at, pick)
				// The words behind are blank too, as in a log.
				for _, seen := range [][]byte{left, join(left, nor.Blank(1024))} {
					if bytes.Equal(left, b) {
						wantGet(t, seen, r, len(b))
						continue
					}
					wantNone(t, "an interrupted encoding", seen)
				}
			}
		}
	}
}

// Every content that can be left of the checksum's lowest byte and of its
// complement, which together could be those of another checksum.
func TestP503LastWord(t *testing.T) {
	r := api.Record{Kind: 9, Seq: 4, Body: count(5)}
	b := seal.Put(r)
	at := len(b) - 8
	for x := range 256 {
		for y := range 256 {
			left := torn(b, at, []byte{byte(x), 0, 0, 0, byte(y)})
			if bytes.Equal(left, b) {
				wantGet(t, left, r, len(b))
				continue
			}
			wantNone(t, "an interrupted encoding", left)
		}
	}
}
