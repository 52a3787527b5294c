package mbap

import (
	"bytes"
	"encoding/binary"
	"math/rand"
	"slices"
	"testing"

	"rung/api"
)

// laid is a frame's bytes, laid out beside the package's way.
func laid(id uint16, unit byte, pdu []byte) []byte {
	b := make([]byte, 7+len(pdu))
	binary.BigEndian.PutUint16(b[0:], id)
	binary.BigEndian.PutUint16(b[4:], uint16(len(pdu)+1))
	b[6] = unit
	copy(b[7:], pdu)
	return b
}

func randomBytes(r *rand.Rand, n int) []byte {
	b := make([]byte, n)
	r.Read(b)
	return b
}

func randomFrame(r *rand.Rand, n int) api.Frame {
	return api.Frame{Id: uint16(r.Intn(1 << 16)), Unit: byte(r.Intn(256)), Pdu: randomBytes(r, n)}
}

func same(a, b api.Frame) bool {
	return a.Id == b.Id && a.Unit == b.Unit && bytes.Equal(a.Pdu, b.Pdu)
}

// wantNothing asks for zeros, beside e.
func wantNothing(t *testing.T, what string, b []byte, e api.Errno) {
	t.Helper()
	f, n, got := Open(b)
	if got != e || n != 0 || !same(f, api.Frame{}) {
		t.Errorf("P4.1: %s: Open(%x) = %v, %d, %d; want zeros and %d", what, b, f, n, got, e)
	}
}

// wantFrame asks for f, which has n bytes.
func wantFrame(t *testing.T, what string, b []byte, f api.Frame, n int) {
	t.Helper()
	got, m, e := Open(b)
	if e != api.OK || m != n || !same(got, f) {
		t.Errorf("%s: Open(%x) = %v, %d, %d; want %v, %d", what, b, got, m, e, f, n)
	}
}

func TestExample(t *testing.T) {
	f := api.Frame{Id: 1, Unit: 17, Pdu: []byte{3}}
	want := []byte{0, 1, 0, 0, 0, 2, 0x11, 3}
	if b, e := Write(f); e != api.OK || !bytes.Equal(b, want) {
		t.Errorf("P4.1: the example is written %x, %d; want %x", b, e, want)
	}
	wantFrame(t, "P4.1: the example", want, f, 8)
}

func TestWriteLays(t *testing.T) {
	r := rand.New(rand.NewSource(1))
	for n := 1; n <= 253; n++ {
		f := randomFrame(r, n)
		b, e := Write(f)
		if want := laid(f.Id, f.Unit, f.Pdu); e != api.OK || !bytes.Equal(b, want) {
			t.Fatalf("P4.1: Write of %d bytes: %x, %d; want %x", n, b, e, want)
		}
	}
	b, _ := Write(api.Frame{Pdu: make([]byte, api.MaxPdu)})
	if len(b) != api.MaxAdu {
		t.Errorf("P4.1: the longest frame has %d bytes; want %d", len(b), api.MaxAdu)
	}
}

func TestWriteRefuses(t *testing.T) {
	lists := [][]byte{nil, {}}
	for _, n := range []int{254, 255, 256, 257, 509, 65534, 65535, 65536, 65537, 65538, 65789} {
		lists = append(lists, make([]byte, n))
	}
	for _, pdu := range lists {
		b, e := Write(api.Frame{Id: 7, Unit: 9, Pdu: pdu})
		if e != api.ErrMbapForm || len(b) != 0 {
			t.Errorf("P4.1: Write of %d bytes: %d bytes, %d; want none, %d", len(pdu), len(b), e, api.ErrMbapForm)
		}
	}
}

func TestOpenWaits(t *testing.T) {
	wantNothing(t, "no list", nil, api.OK)
	wantNothing(t, "no byte", []byte{}, api.OK)
	r := rand.New(rand.NewSource(2))
	for _, n := range []int{1, 2, 3, 100, 252, 253} {
		b := laid(0xFFFF, 0xFF, randomBytes(r, n))
		for i := range b {
			wantNothing(t, "a frame's beginning", b[:i], api.OK)
		}
	}
}

// TestOpenWaitsForSix: of less than six bytes nothing is refused, whatever
// they are.
func TestOpenWaitsForSix(t *testing.T) {
	for n := range 6 {
		wantNothing(t, "ones", bytes.Repeat([]byte{0xFF}, n), api.OK)
		wantNothing(t, "ones with a spare", bytes.Repeat([]byte{0xFF}, 9)[:n], api.OK)
	}
}

// TestOpenAllLengths asks of every length with six bytes alone, with one less
// than the frame, with the frame, and with more.
func TestOpenAllLengths(t *testing.T) {
	for n := range 1 << 16 {
		b := []byte{1, 2, 0, 0, byte(n >> 8), byte(n)}
		if n < 2 || n > 254 {
			wantNothing(t, "a wrong length", b, api.ErrMbapLen)
			wantNothing(t, "a wrong length", append(b, 1, 2, 3), api.ErrMbapLen)
			continue
		}
		wantNothing(t, "six bytes", b, api.OK)
		whole := append(b, bytes.Repeat([]byte{5}, n)...)
		f := api.Frame{Id: 0x102, Unit: 5, Pdu: whole[7:]}
		wantNothing(t, "one byte less", whole[:len(whole)-1], api.OK)
		wantFrame(t, "P4.1: a whole frame", whole, f, 6+n)
		wantFrame(t, "P4.2: one byte more", append(slices.Clip(whole), 8), f, 6+n)
	}
}

func TestOpenWrongLengthThoughWhole(t *testing.T) {
	for _, n := range []int{0, 1, 255, 256, 258, 0xFF02, 0xFFFF} {
		b := append([]byte{0, 0, 0, 0, byte(n >> 8), byte(n)}, make([]byte, n+3)...)
		wantNothing(t, "a wrong length with all its bytes", b, api.ErrMbapLen)
	}
}

// TestOpenOtherProtocols: the protocol is named ahead of the length.
func TestOpenOtherProtocols(t *testing.T) {
	for p := 1; p < 1<<16; p++ {
		for _, n := range []int{2, 0, 1, 254, 255, 0xFFFF} {
			b := []byte{0, 0, byte(p >> 8), byte(p), byte(n >> 8), byte(n)}
			wantNothing(t, "another protocol", b, api.ErrMbapForm)
		}
		wantNothing(t, "another protocol, whole", []byte{0, 0, byte(p >> 8), byte(p), 0, 2, 1, 3}, api.ErrMbapForm)
	}
}

func TestReadBack(t *testing.T) {
	r := rand.New(rand.NewSource(3))
	for range 5000 {
		f := randomFrame(r, 1+r.Intn(253))
		b, e := Write(f)
		if e != api.OK {
			t.Fatalf("P4.2: Write(%v) = %d", f, e)
		}
		wantFrame(t, "P4.2: alone", b, f, len(b))
		wantFrame(t, "P4.2: ahead of any bytes", append(slices.Clone(b), randomBytes(r, r.Intn(300))...), f, len(b))
		wantFrame(t, "P4.2: ahead of itself", append(slices.Clone(b), b...), f, len(b))
	}
}

// TestReadBackOneByOne takes frames that stand behind one another apart.
func TestReadBackOneByOne(t *testing.T) {
	r := rand.New(rand.NewSource(4))
	var frames []api.Frame
	var b []byte
	for _, n := range []int{1, 253, 2, 252, 17, 1, 1, 128, 253} {
		f := randomFrame(r, n)
		part, _ := Write(f)
		frames, b = append(frames, f), append(b, part...)
	}
	for i, f := range frames {
		wantFrame(t, "P4.2: frames in a row", b, f, 7+len(f.Pdu))
		_, n, _ := Open(b)
		if n == 0 {
			t.Fatalf("P4.2: frame %d isn't there", i)
		}
		b = b[n:]
	}
	if len(b) != 0 {
		t.Errorf("P4.2: %d bytes are left over", len(b))
	}
}

// TestAnyBytes: an answer is that of the document, worked out byte by byte.
func TestAnyBytes(t *testing.T) {
	r := rand.New(rand.NewSource(5))
	for range 20000 {
		b := randomBytes(r, r.Intn(20))
		for i := 2; i < min(5, len(b)); i++ {
			if r.Intn(8) != 0 {
				b[i] = 0
			}
		}
		if len(b) > 5 {
			b[5] %= 16
		}
		switch {
		case len(b) < 6:
			wantNothing(t, "few bytes", b, api.OK)
		case b[2] != 0 || b[3] != 0:
			wantNothing(t, "another protocol", b, api.ErrMbapForm)
		case b[4] != 0 || b[5] < 2:
			wantNothing(t, "a wrong length", b, api.ErrMbapLen)
		case len(b) < 6+int(b[5]):
			wantNothing(t, "a beginning", b, api.OK)
		default:
			end := 6 + int(b[5])
			f := api.Frame{Id: uint16(b[0])*256 + uint16(b[1]), Unit: b[6], Pdu: b[7:end]}
			wantFrame(t, "P4.1: any bytes", b, f, end)
		}
	}
}

func TestNewMemory(t *testing.T) {
	pdu := append(make([]byte, 0, 400), 1, 2, 3)
	spare := pdu[:400]
	for i := 3; i < 400; i++ {
		spare[i] = 0xEE
	}
	b, _ := Write(api.Frame{Id: 1, Unit: 2, Pdu: pdu})
	want := slices.Clone(b)
	fill(b[:cap(b)], 0x77)
	if !bytes.Equal(pdu, []byte{1, 2, 3}) || bytes.Count(spare, []byte{0xEE}) != 397 {
		t.Error("P4.1: Write changed, or gave away, its argument's memory")
	}
	fill(spare, 0x55)
	if !bytes.Equal(b, bytes.Repeat([]byte{0x77}, len(b))) {
		t.Error("P4.1: Write kept its argument's memory")
	}

	in := append(make([]byte, 0, 400), want...)
	room := in[:400]
	f, _, _ := Open(in)
	if !bytes.Equal(in, want) || bytes.Count(room[len(in):], []byte{0}) != 400-len(in) {
		t.Error("P4.1: Open changed its argument")
	}
	fill(f.Pdu[:cap(f.Pdu)], 0x33)
	if !bytes.Equal(in, want) || bytes.Contains(room, []byte{0x33}) {
		t.Error("P4.1: Open's answer shares its argument's memory")
	}
	fill(room, 0x44)
	if !bytes.Equal(f.Pdu, []byte{0x33, 0x33, 0x33}) {
		t.Error("P4.1: Open's answer shares its argument's memory")
	}
}

func fill(b []byte, x byte) {
	for i := range b {
		b[i] = x
	}
}
