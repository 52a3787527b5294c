package crc

import (
	"bytes"
	"hash/crc32"
	"math/rand"
	"sync"
	"testing"
)

// remainder is the CRC-16 worked out as a division of polynomials, the highest
// bit first, beside the halving way of the package: the polynomial 18005, its
// bits mirrored in each byte and in the sum.
func remainder(b []byte) uint16 {
	sum := uint16(0xFFFF)
	for _, c := range b {
		for i := range 8 {
			top := sum>>15&1 ^ uint16(c>>i&1)
			sum <<= 1
			if top == 1 {
				sum ^= 0x8005
			}
		}
	}
	var mirrored uint16
	for i := range 16 {
		mirrored |= sum >> i & 1 << (15 - i)
	}
	return mirrored
}

func randomBytes(r *rand.Rand, n int) []byte {
	b := make([]byte, n)
	for i := range b {
		b[i] = byte(r.Intn(256))
	}
	return b
}

// P2.1: sums that are known from elsewhere.
func TestKnownSums(t *testing.T) {
	cases := []struct {
		in    string
		sum16 uint16
		sum32 uint32
	}{
		{"", 0xFFFF, 0},
		{"\x00", 0x40BF, 0xD202EF8D},
		{"\xFF", 0x00FF, 0xFF000000},
		{"\xFF\xFF", 0x0000, 0xFFFF0000},
		{"a", 0xA87E, 0xE8B7BE43},
		{"123456789", 0x4B37, 0xCBF43926},
		// Frames of a line: on it the sum's low byte goes ahead.
		{"\x01\x03\x00\x00\x00\x0A", 0xCDC5, crc32.ChecksumIEEE([]byte("\x01\x03\x00\x00\x00\x0A"))},
		{"\x11\x03\x00\x6B\x00\x03", 0x8776, crc32.ChecksumIEEE([]byte("\x11\x03\x00\x6B\x00\x03"))},
	}
	for _, c := range cases {
		if got := Sum16([]byte(c.in)); got != c.sum16 {
			t.Errorf("P2.1: Sum16(%q) = %04X, not %04X", c.in, got, c.sum16)
		}
		if got := Sum32([]byte(c.in)); got != c.sum32 {
			t.Errorf("P2.1: Sum32(%q) = %08X, not %08X", c.in, got, c.sum32)
		}
	}
	if Sum16(nil) != 0xFFFF || Sum32(nil) != 0 {
		t.Error("P2.1: a nil list isn't as an empty one")
	}
}

// P2.1: all lists of one byte, many of two, random ones of all lengths.
func TestSumsAgainstOtherWays(t *testing.T) {
	one := func(b []byte) {
		t.Helper()
		if got, want := Sum16(b), remainder(b); got != want {
			t.Fatalf("P2.1: Sum16(%x) = %04X, not %04X", b, got, want)
		}
		if got, want := Sum32(b), crc32.ChecksumIEEE(b); got != want {
			t.Fatalf("P2.1: Sum32(%x) = %08X, not %08X", b, got, want)
		}
	}
	for i := range 256 {
		one([]byte{byte(i)})
		for j := range 256 {
			one([]byte{byte(i), byte(j)})
		}
	}
	r := rand.New(rand.NewSource(1))
	for n := range 600 {
		one(randomBytes(r, n))
	}
	one(randomBytes(r, 1<<20))
}

// P2.1: the sum of a frame and its own sum, low byte first, is 0.
func TestSumOfListAndSumIsNought(t *testing.T) {
	r := rand.New(rand.NewSource(2))
	for n := range 300 {
		b := randomBytes(r, n)
		s := Sum16(b)
		if got := Sum16(append(b, byte(s), byte(s>>8))); got != 0 {
			t.Fatalf("P2.1: %d bytes and their sum: %04X, not 0", n, got)
		}
	}
}

// P2.2: a Table's sums are the function's; it is made at the first one.
func TestTableSums(t *testing.T) {
	var table Table
	if table.Made() != 0 {
		t.Fatalf("P2.2: made %d times ahead of the first sum", table.Made())
	}
	r := rand.New(rand.NewSource(3))
	for n := range 600 {
		b := randomBytes(r, n)
		if got, want := table.Sum16(b), Sum16(b); got != want {
			t.Fatalf("P2.2: Table.Sum16(%x) = %04X, not %04X", b, got, want)
		}
		if table.Made() != 1 {
			t.Fatalf("P2.2: made %d times behind %d sums", table.Made(), n+1)
		}
	}
	for i := range 256 {
		for j := range 256 {
			b := []byte{byte(i), byte(j)}
			if got, want := table.Sum16(b), Sum16(b); got != want {
				t.Fatalf("P2.2: Table.Sum16(%x) = %04X, not %04X", b, got, want)
			}
		}
	}
}

// P2.2: an empty list makes the table too; asking Made doesn't, nor does the
// function Sum16, nor another Table.
func TestWhatMakesATable(t *testing.T) {
	var empty, none, asked, other Table
	if empty.Sum16([]byte{}) != 0xFFFF || empty.Made() != 1 {
		t.Errorf("P2.2: behind an empty list made %d times", empty.Made())
	}
	if none.Sum16(nil) != 0xFFFF || none.Made() != 1 {
		t.Errorf("P2.2: behind a nil list made %d times", none.Made())
	}
	Sum16([]byte("a"))
	other.Sum16([]byte("a"))
	for range 3 {
		if asked.Made() != 0 {
			t.Errorf("P2.2: unused, but made %d times", asked.Made())
		}
	}
}

// P2.2: several first sums at one time, with Made asked beside them: made once,
// and none of them sees half a table.
func TestTableAtOneTime(t *testing.T) {
	text := []byte("123456789")
	for range 200 {
		var table Table
		var all sync.WaitGroup
		begin := make(chan struct{})
		for range 16 {
			all.Go(func() {
				<-begin
				if made := table.Made(); made != 0 && made != 1 {
					t.Errorf("P2.2: made %d times", made)
				}
				if got := table.Sum16(text); got != 0x4B37 {
					t.Errorf("P2.2: %04X, not 4B37", got)
				}
				if made := table.Made(); made != 1 {
					t.Errorf("P2.2: behind a sum made %d times", made)
				}
			})
		}
		close(begin)
		all.Wait()
		if table.Made() != 1 {
			t.Fatalf("P2.2: made %d times", table.Made())
		}
	}
}

// P2.3: each change within sixteen bits in a row, at each place of a short
// list, is told. The sum of a changed list is unlike by an amount that hangs on
// the change alone, not on the list: one list is as good as all.
func TestChangesWithinSixteenBits(t *testing.T) {
	b := []byte{0x11, 0x03, 0x00, 0x6B, 0x00, 0x03}
	sum := Sum16(b)
	changed := make([]byte, len(b))
	var table Table
	for at := 0; at+16 <= 8*len(b); at++ {
		for change := 1; change < 1<<16; change++ {
			copy(changed, b)
			for i := range 3 {
				if at/8+i < len(b) {
					changed[at/8+i] ^= byte(change << (at % 8) >> (8 * i))
				}
			}
			if Sum16(changed) == sum || table.Sum16(changed) == sum {
				t.Fatalf("P2.3: %x and %x have the sum %04X", b, changed, sum)
			}
		}
	}
}

// P2.3: in long lists, and at their ends, where fewer bits are left.
func TestChangesInLongLists(t *testing.T) {
	r := rand.New(rand.NewSource(4))
	for range 2000 {
		b := randomBytes(r, 1+r.Intn(254))
		changed := bytes.Clone(b)
		at := r.Intn(8 * len(b))
		changed[at/8] ^= 1 << (at % 8)
		for bit := at + 1; bit < min(at+16, 8*len(b)); bit++ {
			changed[bit/8] ^= byte(r.Intn(2)) << (bit % 8)
		}
		if Sum16(changed) == Sum16(b) {
			t.Fatalf("P2.3: %x and %x have one sum", b, changed)
		}
	}
}

// What holds everywhere: what is handed in isn't changed, the room behind it
// neither, and isn't kept.
func TestArgumentsStay(t *testing.T) {
	room := []byte("123456789 and what stands behind it")
	before := bytes.Clone(room)
	var table Table
	part := room[:9]
	if Sum16(part) != 0x4B37 || Sum32(part) != 0xCBF43926 || table.Sum16(part) != 0x4B37 {
		t.Error("P2.1: the sum of a part")
	}
	if !bytes.Equal(room, before) {
		t.Errorf("changed: %q", room)
	}
	clear(room)
	if table.Sum16(before[:9]) != 0x4B37 {
		t.Error("P2.2: a later change of what was handed in is seen")
	}
}
