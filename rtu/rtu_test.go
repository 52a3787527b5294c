package rtu

import (
	"bytes"
	"math/rand"
	"slices"
	"testing"

	"rung/api"
)

// remainder is Modbus's sum worked out as a division of polynomials, the
// highest bit first, beside the way of package crc.
func remainder(b []byte) uint16 {
	s := uint16(0xFFFF)
	for _, c := range b {
		for i := range 8 {
			top := s>>15&1 ^ uint16(c>>i&1)
			s <<= 1
			if top == 1 {
				s ^= 0x8005
			}
		}
	}
	var mirrored uint16
	for i := range 16 {
		mirrored |= s >> i & 1 << (15 - i)
	}
	return mirrored
}

// summed is body and its sum, laid out beside the package's way; body may have
// any number of bytes.
func summed(body []byte) []byte {
	b := make([]byte, len(body)+2)
	copy(b, body)
	s := remainder(body)
	b[len(body)] = byte(s % 256)
	b[len(body)+1] = byte(s / 256)
	return b
}

func laid(unit byte, pdu []byte) []byte {
	return summed(slices.Concat([]byte{unit}, pdu))
}

func randomBytes(r *rand.Rand, n int) []byte {
	b := make([]byte, n)
	r.Read(b)
	return b
}

func fill(b []byte, x byte) {
	for i := range b {
		b[i] = x
	}
}

// wantError asks for zeros beside e.
func wantError(t *testing.T, what string, b []byte, e api.Errno) {
	t.Helper()
	unit, p, got := Open(b)
	if got != e || unit != 0 || len(p) != 0 {
		t.Fatalf("%s: Open(%x) = %d, %x, %d; want zeros and %d", what, b, unit, p, got, e)
	}
}

func wantFrame(t *testing.T, what string, b []byte, unit byte, pdu []byte) {
	t.Helper()
	u, p, e := Open(b)
	if e != api.OK || u != unit || !bytes.Equal(p, pdu) {
		t.Fatalf("%s: Open(%x) = %d, %x, %d; want %d, %x", what, b, u, p, e, unit, pdu)
	}
}

// P5.1: the chapter's example, and frames that are known from elsewhere.
func TestKnownFrames(t *testing.T) {
	cases := []struct {
		unit  byte
		pdu   string
		frame string
	}{
		{1, "\x03\x00\x00\x00\x01", "\x01\x03\x00\x00\x00\x01\x84\x0A"},
		{1, "\x03\x00\x00\x00\x0A", "\x01\x03\x00\x00\x00\x0A\xC5\xCD"},
		{17, "\x03\x00\x6B\x00\x03", "\x11\x03\x00\x6B\x00\x03\x76\x87"},
		{2, "\x07", "\x02\x07\x41\x12"},
	}
	for _, c := range cases {
		if b, e := Write(c.unit, []byte(c.pdu)); e != api.OK || string(b) != c.frame {
			t.Errorf("P5.1: Write(%d, %x) = %x, %d; want %x", c.unit, c.pdu, b, e, c.frame)
		}
		wantFrame(t, "P5.1: known", []byte(c.frame), c.unit, []byte(c.pdu))
	}
}

// P5.1: every unit, and every number of bytes that a PDU may have.
func TestWriteLays(t *testing.T) {
	r := rand.New(rand.NewSource(1))
	one := func(unit byte, pdu []byte) {
		t.Helper()
		want := laid(unit, pdu)
		if b, e := Write(unit, pdu); e != api.OK || !bytes.Equal(b, want) {
			t.Fatalf("P5.1: Write(%d, %x) = %x, %d; want %x", unit, pdu, b, e, want)
		}
		wantFrame(t, "P5.1: laid", want, unit, pdu)
	}
	for unit := range 256 {
		one(byte(unit), randomBytes(r, 1+r.Intn(253)))
		one(byte(unit), []byte{byte(r.Intn(256))})
	}
	for n := 1; n <= 253; n++ {
		one(byte(r.Intn(256)), randomBytes(r, n))
		one(0, make([]byte, n))
		one(255, bytes.Repeat([]byte{255}, n))
	}
	b, _ := Write(1, make([]byte, api.MaxPdu))
	if len(b) != api.MaxRtu {
		t.Errorf("P5.1: the longest frame has %d bytes; want %d", len(b), api.MaxRtu)
	}
}

func TestWriteRefuses(t *testing.T) {
	lists := [][]byte{nil, {}, make([]byte, 0, 9)}
	for _, n := range []int{254, 255, 256, 257, 509, 65535, 65536, 65537, 65789} {
		lists = append(lists, make([]byte, n))
	}
	for _, pdu := range lists {
		b, e := Write(9, pdu)
		if e != api.ErrRtuForm || len(b) != 0 {
			t.Errorf("P5.1: Write of %d bytes: %d bytes, %d; want none, %d", len(pdu), len(b), e, api.ErrRtuForm)
		}
	}
}

// P5.1: too few bytes, or too many, are no frame, be their sum right or wrong.
func TestOpenOtherLengths(t *testing.T) {
	wantError(t, "P5.1: no list", nil, api.ErrRtuForm)
	r := rand.New(rand.NewSource(2))
	for _, n := range []int{0, 1, 2, 3, 257, 258, 259, 260, 512, 513, 65536, 65540, 65792} {
		wantError(t, "P5.1: noughts", make([]byte, n), api.ErrRtuForm)
		wantError(t, "P5.1: any", randomBytes(r, n), api.ErrRtuForm)
		wantError(t, "P5.1: with spare room", randomBytes(r, n+300)[:n], api.ErrRtuForm)
		if n >= 2 {
			wantError(t, "P5.1: with a right sum", summed(randomBytes(r, n-2)), api.ErrRtuForm)
		}
	}
	for n := 4; n <= 256; n++ {
		b := summed(randomBytes(r, n-2))
		wantFrame(t, "P5.1: a frame's length", b, b[0], b[1:n-2])
		b[n-1]++
		wantError(t, "P5.1: a frame's length, another sum", b, api.ErrRtuCrc)
	}
}

// P5.1: of all sums one is right, with its lower byte first.
func TestOpenAllSums(t *testing.T) {
	for _, body := range [][]byte{{1, 3}, {17, 3, 0, 107, 0, 3}, make([]byte, 254)} {
		right := summed(body)
		b := slices.Clone(right)
		for s := range 1 << 16 {
			b[len(body)], b[len(body)+1] = byte(s), byte(s>>8)
			if bytes.Equal(b, right) {
				wantFrame(t, "P5.1: the right sum", b, body[0], body[1:])
			} else {
				wantError(t, "P5.1: another sum", b, api.ErrRtuCrc)
			}
		}
	}
}

// P5.1: a frame is all of b: what is cut off, or stands ahead or behind, isn't
// passed over.
func TestOpenTakesAll(t *testing.T) {
	b := laid(17, []byte{3, 0, 107, 0, 3})
	for n := range b {
		e := api.ErrRtuCrc
		if n < 4 {
			e = api.ErrRtuForm
		}
		wantError(t, "P5.1: a frame's beginning", b[:n], e)
	}
	for c := range 256 {
		wantError(t, "P5.1: a byte ahead", slices.Concat([]byte{byte(c)}, b), api.ErrRtuCrc)
		if c != 0 {
			wantError(t, "P5.1: a byte behind", append(slices.Clone(b), byte(c)), api.ErrRtuCrc)
		}
	}
	// Of a frame without its last byte the sum is that byte, then 0: with a 0
	// behind it a frame is another one, whose PDU has a byte more.
	wantFrame(t, "P5.1: a 0 behind", append(slices.Clone(b), 0), 17, b[1:len(b)-1])
	wantError(t, "P5.1: twice", slices.Concat(b, b), api.ErrRtuCrc)
}

// P5.1: any bytes: the answer is that of the document, worked out beside.
func TestAnyBytes(t *testing.T) {
	r := rand.New(rand.NewSource(3))
	for range 20000 {
		b := randomBytes(r, r.Intn(300))
		if r.Intn(2) == 0 {
			b = summed(b)
		}
		n := len(b)
		switch {
		case n < 4 || n > 256:
			wantError(t, "P5.1: any", b, api.ErrRtuForm)
		case remainder(b[:n-2]) != uint16(b[n-2])+256*uint16(b[n-1]):
			wantError(t, "P5.1: any", b, api.ErrRtuCrc)
		default:
			wantFrame(t, "P5.1: any", b, b[0], b[1:n-2])
		}
	}
}

// turn turns the bits of b from at on that are 1 in change. Bits are in the
// order in which they go over a line: the lowest of each byte first.
func turn(b []byte, at, change int) {
	for i := 0; change>>i != 0; i++ {
		b[(at+i)/8] ^= byte(change>>i&1) << ((at + i) % 8)
	}
}

// P5.2: each change of up to sixteen bits in a row, at each place ahead of the
// sum of a short frame. Which sum a change makes hangs on the change alone, not
// on the frame: one frame is as good as all of its length.
func TestChangesWithinSixteenBits(t *testing.T) {
	for _, pdu := range [][]byte{{7}, {3, 0, 107, 0, 3}} {
		b, _ := Write(17, pdu)
		bits := 8 * (len(b) - 2)
		for at := range bits {
			for change := 1; change < 1<<min(16, bits-at); change++ {
				turn(b, at, change)
				wantError(t, "P5.2: changed", b, api.ErrRtuCrc)
				turn(b, at, change)
			}
		}
		wantFrame(t, "P5.2: turned back", b, 17, pdu)
	}
}

// P5.2: in frames of all lengths, at any place; the first and the last sixteen
// bits ahead of the sum always.
func TestChangesInLongFrames(t *testing.T) {
	r := rand.New(rand.NewSource(4))
	for n := 1; n <= 253; n++ {
		pdu := randomBytes(r, n)
		b, _ := Write(byte(n), pdu)
		last := 8*(len(b)-2) - 16
		for k := range 40 {
			at := r.Intn(last + 1)
			switch k {
			case 0:
				at = 0
			case 1:
				at = last
			}
			for _, change := range []int{1 + r.Intn(0xFFFF), 0xFFFF, 0x8001} {
				turn(b, at, change)
				wantError(t, "P5.2: changed", b, api.ErrRtuCrc)
				turn(b, at, change)
			}
		}
		wantFrame(t, "P5.2: turned back", b, byte(n), pdu)
	}
}

// What holds everywhere: what is handed in isn't changed, the room behind it
// neither, and isn't kept; answers are new memory.
func TestNewMemory(t *testing.T) {
	room := bytes.Repeat([]byte{0xEE}, 400)
	pdu := room[:3]
	copy(pdu, []byte{1, 2, 3})
	before := slices.Clone(room)
	b, _ := Write(9, pdu)
	frame := slices.Clone(b)
	fill(b[:cap(b)], 0x77)
	if !bytes.Equal(room, before) {
		t.Error("P5.1: Write changed, or gave away, its argument's memory")
	}
	fill(room, 0x55)
	if !bytes.Equal(b, bytes.Repeat([]byte{0x77}, len(b))) {
		t.Error("P5.1: Write's answer shares its argument's memory")
	}

	in := room[:len(frame)]
	copy(in, frame)
	before = slices.Clone(room)
	_, p, _ := Open(in)
	fill(p[:cap(p)], 0x33)
	if !bytes.Equal(room, before) {
		t.Error("P5.1: Open changed, or gave away, its argument's memory")
	}
	fill(room, 0x44)
	if !bytes.Equal(p, []byte{0x33, 0x33, 0x33}) {
		t.Error("P5.1: Open's answer shares its argument's memory")
	}
}
