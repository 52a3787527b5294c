package line

import (
	"bytes"
	"math"
	"math/rand"
	"slices"
	"testing"

	"rung/api"
)

// sum16 is Modbus's sum by long division, beside crc's way.
func sum16(b []byte) uint16 {
	s := uint16(0xFFFF)
	for i := range 8 * len(b) {
		in := uint16(b[i/8]) >> (i % 8) & 1
		out := s&1 ^ in
		s >>= 1
		if out == 1 {
			s ^= 0xA001
		}
	}
	return s
}

// laid is a frame's bytes, laid out beside rtu's way.
func laid(unit byte, p ...byte) []byte {
	b := append([]byte{unit}, p...)
	s := sum16(b)
	return append(b, byte(s%256), byte(s/256))
}

func randomBytes(r *rand.Rand, n int) []byte {
	b := make([]byte, n)
	r.Read(b)
	return b
}

// told is what Next answers of one frame.
type told struct {
	unit byte
	pdu  []byte
}

// model is a line by the chapter's words: all the bytes that came, and lists.
type model struct {
	unit    byte
	silence int
	came    []byte
	ticks   int
	wait    []told
}

func (m *model) feed(b []byte) {
	if len(b) > 0 {
		m.came = append(m.came, b...)
		m.ticks = 0
	}
}

func (m *model) left() int { return min(len(m.came), 257) }

func (m *model) tick() {
	m.ticks++
	if m.ticks < max(m.silence, 1) || len(m.came) == 0 {
		return
	}
	b := m.came
	m.came = nil
	if len(b) < 4 || len(b) > 256 || !bytes.Equal(b, laid(b[0], b[1:len(b)-2]...)) {
		return
	}
	if (b[0] == m.unit || b[0] == 0) && len(m.wait) < 8 {
		m.wait = append(m.wait, told{b[0], slices.Clone(b[1 : len(b)-2])})
	}
}

func (m *model) next() (byte, []byte, bool) {
	if len(m.wait) == 0 {
		return 0, nil, false
	}
	f := m.wait[0]
	m.wait = m.wait[1:]
	return f.unit, f.pdu, true
}

func want(t *testing.T, what string, l *Line, left, waits int) {
	t.Helper()
	if l.Left() != left || l.Waits() != waits {
		t.Fatalf("P7.1: %s: %d bytes are held, %d frames wait; want %d, %d", what, l.Left(), l.Waits(), left, waits)
	}
}

// wantTold asks for a frame, which waits no more; the held bytes are as before.
func wantTold(t *testing.T, what string, l *Line, unit byte, p []byte) {
	t.Helper()
	left, waits := l.Left(), l.Waits()
	u, q, ok := l.Next()
	if !ok || u != unit || !bytes.Equal(q, p) {
		t.Fatalf("P7.1: %s: Next = %d, %x, %v; want %d, %x, true", what, u, q, ok, unit, p)
	}
	want(t, what, l, left, waits-1)
}

func wantNone(t *testing.T, what string, l *Line) {
	t.Helper()
	left := l.Left()
	u, q, ok := l.Next()
	if ok || u != 0 || len(q) != 0 {
		t.Fatalf("P7.1: %s: Next = %d, %x, %v; want zeros, false", what, u, q, ok)
	}
	want(t, what, l, left, 0)
}

func ticks(l *Line, n int) {
	for range n {
		l.Tick()
	}
}

// P7.1: the chapter's example: a frame, then ticks till silence: told; the same
// with one bit turned: not.
func TestExample(t *testing.T) {
	b := []byte{1, 3, 0, 0, 0, 1, 0x84, 0x0A}
	l := New(1, 3)
	want(t, "new", l, 0, 0)
	wantNone(t, "new", l)
	l.Feed(b)
	ticks(l, 2)
	want(t, "two ticks of three", l, 8, 0)
	wantNone(t, "two ticks of three", l)
	l.Tick()
	want(t, "silence", l, 0, 1)
	wantTold(t, "silence", l, 1, []byte{3, 0, 0, 0, 1})
	wantNone(t, "told", l)

	for bit := range 8 * len(b) {
		c := slices.Clone(b)
		c[bit/8] ^= 1 << (bit % 8)
		l.Feed(c)
		ticks(l, 3)
		want(t, "a bit turned", l, 0, 0)
	}
	l.Feed(b)
	ticks(l, 3)
	wantTold(t, "behind broken ones", l, 1, []byte{3, 0, 0, 0, 1})
}

// P7.1: a frame is whole at the silence's last tick, no sooner, no later;
// a silence below 1 is one of 1.
func TestSilence(t *testing.T) {
	b := laid(9, 1, 2, 3)
	for _, silence := range []int{math.MinInt, -2, -1, 0, 1, 2, 3, 4, 7, 100, 1000} {
		need := max(silence, 1)
		l := New(9, silence)
		for range 3 {
			ticks(l, 2*need+1)
			want(t, "ticks ahead of bytes", l, 0, 0)
			l.Feed(b)
			ticks(l, need-1)
			want(t, "a tick less", l, 6, 0)
			l.Tick()
			want(t, "silence", l, 0, 1)
			ticks(l, 3*need)
			want(t, "ticks behind it", l, 0, 1)
			wantTold(t, "silence", l, 9, []byte{1, 2, 3})
		}
	}
}

// P7.1: a silence that is never reached.
func TestEndlessSilence(t *testing.T) {
	l := New(9, math.MaxInt)
	l.Feed(laid(9, 1))
	ticks(l, 100000)
	want(t, "no silence", l, 4, 0)
}

// P7.1: each byte lets the silence begin anew; the pieces are one frame.
func TestPieces(t *testing.T) {
	b := laid(4, 16, 0, 1, 0, 2, 4, 1, 2, 3, 4)
	for _, silence := range []int{1, 2, 3, 5} {
		for size := 1; size <= len(b); size++ {
			l := New(4, silence)
			left := 0
			for piece := range slices.Chunk(b, size) {
				l.Feed(piece)
				left += len(piece)
				ticks(l, silence-1)
				want(t, "between pieces", l, left, 0)
			}
			l.Tick()
			want(t, "all pieces", l, 0, 1)
			wantTold(t, "all pieces", l, 4, b[1:len(b)-2])
		}
	}
}

// P7.1: a silence between two pieces: neither is a frame.
func TestSilenceWithin(t *testing.T) {
	b := laid(4, 16, 0, 1, 0, 2)
	for at := 1; at < len(b); at++ {
		l := New(4, 2)
		l.Feed(b[:at])
		ticks(l, 2)
		want(t, "the first piece", l, 0, 0)
		l.Feed(b[at:])
		want(t, "the second piece", l, len(b)-at, 0)
		ticks(l, 2)
		want(t, "the second piece, ended", l, 0, 0)
	}
}

// P7.1: Feed of no bytes is nothing: nothing is held, and the silence goes on.
func TestFeedNothing(t *testing.T) {
	for _, none := range [][]byte{nil, {}, make([]byte, 0, 9)} {
		l := New(4, 3)
		l.Feed(none)
		ticks(l, 5)
		want(t, "no bytes", l, 0, 0)
		l.Feed(laid(4, 1))
		for i := range 3 {
			l.Feed(none)
			want(t, "within the silence", l, 4, 0)
			if i < 2 {
				l.Tick()
			}
		}
		l.Tick()
		want(t, "no bytes ahead of each tick", l, 0, 1)
	}
}

// P7.1: 257 bytes are held at most, however they come; what is behind them is
// lost, but it is no silence.
func TestBound(t *testing.T) {
	r := rand.New(rand.NewSource(1))
	for held := range 260 {
		for _, n := range []int{1, 2, 256 - held, 257 - held, 258 - held, 257, 1000} {
			if n < 1 {
				continue
			}
			l := New(4, 2)
			l.Feed(randomBytes(r, held))
			l.Feed(randomBytes(r, n))
			want(t, "the bound", l, min(held+n, 257), 0)
		}
	}
	l := New(4, 2)
	l.Feed(make([]byte, 257))
	for range 5 {
		l.Tick()
		l.Feed([]byte{1})
		want(t, "bytes that are lost", l, 257, 0)
	}
	l.Tick()
	want(t, "a tick less", l, 257, 0)
	l.Tick()
	want(t, "silence", l, 0, 0)
}

// P7.1, P7.2: frames of each length, and rows of bytes that are too short.
func TestLengths(t *testing.T) {
	r := rand.New(rand.NewSource(2))
	l := New(4, 1)
	for n := 1; n <= 253; n++ {
		p := randomBytes(r, n)
		l.Feed(laid(4, p...))
		want(t, "any length", l, n+3, 0)
		l.Tick()
		wantTold(t, "any length", l, 4, p)
	}
	l.Feed(laid(4))
	l.Tick()
	want(t, "no PDU", l, 0, 0)
	for n := range 4 {
		l.Feed(laid(4, 1)[:n])
		l.Tick()
		want(t, "too short", l, 0, 0)
	}
}

// P7.2: a frame that is too long isn't one, by one byte or by many, even where
// its sum, or that of the bytes that are held, is right.
func TestTooLong(t *testing.T) {
	r := rand.New(rand.NewSource(3))
	l := New(4, 1)
	p := randomBytes(r, 253)
	longest := laid(4, p...)
	if len(longest) != api.MaxRtu {
		t.Fatalf("the longest frame has %d bytes", len(longest))
	}
	for _, more := range []int{1, 2, 3, 100, 256, 257, 1000} {
		l.Feed(longest)
		l.Feed(randomBytes(r, more))
		l.Tick()
		want(t, "bytes behind the longest frame", l, 0, 0)
		l.Feed(longest)
		for range more {
			l.Feed([]byte{byte(r.Intn(256))})
		}
		l.Tick()
		want(t, "bytes behind the longest frame, one by one", l, 0, 0)
	}
	for n := 254; n < 520; n++ {
		l.Feed(laid(4, randomBytes(r, n)...))
		l.Tick()
		want(t, "a right sum", l, 0, 0)
	}
	l.Feed(slices.Concat(laid(4, randomBytes(r, 254)...), []byte{1}))
	l.Tick()
	want(t, "a right sum of those that are held", l, 0, 0)
	l.Feed(longest)
	l.Tick()
	wantTold(t, "as new", l, 4, p)
}

// P7.1, P7.2: of all units' frames those of the line's unit and of 0 are told.
func TestUnits(t *testing.T) {
	for own := range 256 {
		l := New(byte(own), 1)
		for unit := range 256 {
			l.Feed(laid(byte(unit), byte(own), 7))
			l.Tick()
			if unit != own && unit != 0 {
				want(t, "another unit", l, 0, 0)
				continue
			}
			want(t, "the line's unit, or 0", l, 0, 1)
			wantTold(t, "the line's unit, or 0", l, byte(unit), []byte{byte(own), 7})
		}
	}
}

// P7.1: eight frames wait at most; a ninth is lost, and the bytes of it too;
// a place that Next makes is one for the next frame. At each place of the round.
func TestWaits(t *testing.T) {
	send := func(l *Line, n int) {
		l.Feed(laid(byte(4*(n%2)), byte(n>>8), byte(n)))
		l.Tick()
	}
	tell := func(l *Line, n int) {
		t.Helper()
		wantTold(t, "in their order", l, byte(4*(n%2)), []byte{byte(n >> 8), byte(n)})
	}
	for begin := range 20 {
		l := New(4, 1)
		for n := range begin {
			send(l, n)
			tell(l, n)
		}
		for n := range 8 {
			send(l, n)
			want(t, "up to eight", l, 0, n+1)
		}
		for n := 8; n < 30; n++ {
			send(l, n)
			want(t, "past eight", l, 0, 8)
		}
		tell(l, 0)
		send(l, 100)
		want(t, "a place again", l, 0, 8)
		send(l, 101)
		want(t, "none again", l, 0, 8)
		for n := 1; n < 8; n++ {
			tell(l, n)
		}
		tell(l, 100)
		wantNone(t, "all told", l)
	}
}

// P7.2: broken frames between those that wait are as if they hadn't come.
func TestOthersBetween(t *testing.T) {
	r := rand.New(rand.NewSource(4))
	l := New(4, 2)
	for n := range 8 {
		bad := laid(4, byte(n), 9)
		bad[r.Intn(len(bad))] ^= byte(1 + r.Intn(255))
		for _, b := range [][]byte{bad, laid(5, 1), {1, 2, 3}, randomBytes(r, 300), slices.Concat(laid(4, 1), laid(4, 2))} {
			l.Feed(b)
			ticks(l, 2)
			want(t, "no frame", l, 0, n)
		}
		l.Feed(laid(4, byte(n)))
		ticks(l, 2)
		want(t, "a frame", l, 0, n+1)
	}
	for n := range 8 {
		wantTold(t, "the right ones", l, 4, []byte{byte(n)})
	}
	wantNone(t, "the right ones", l)
}

// P7.1: Next tells what waits while another frame is coming, and doesn't
// touch that one, or its silence.
func TestNextWhileComing(t *testing.T) {
	l := New(4, 3)
	l.Feed(laid(4, 1, 1))
	ticks(l, 3)
	b := laid(4, 2, 2)
	l.Feed(b[:2])
	l.Tick()
	wantTold(t, "half of another", l, 4, []byte{1, 1})
	l.Tick()
	l.Feed(b[2:])
	ticks(l, 2)
	wantNone(t, "not whole yet", l)
	l.Tick()
	wantTold(t, "the other", l, 4, []byte{2, 2})
}

// randomFeed is a frame for the most part, at times a piece of one, or none.
func randomFeed(r *rand.Rand, unit byte) []byte {
	n := 1 + r.Intn(8)
	if r.Intn(12) == 0 {
		n = 1 + r.Intn(260)
	}
	u := unit
	switch r.Intn(8) {
	case 0:
		u = 0
	case 1:
		u = byte(r.Intn(256))
	}
	b := laid(u, randomBytes(r, n)...)
	switch r.Intn(10) {
	case 0:
		b[r.Intn(len(b))] ^= 1 << r.Intn(8)
	case 1:
		b = b[:r.Intn(len(b)+1)]
	case 2:
		b = nil
	}
	return b
}

// P7.1, P7.2: calls in any order, held against the chapter's words.
func TestAnyCalls(t *testing.T) {
	r := rand.New(rand.NewSource(5))
	for range 1500 {
		unit, silence := byte(r.Intn(4)), r.Intn(6)-1
		l, m := New(unit, silence), &model{unit: unit, silence: silence}
		slow := 1 + r.Intn(8)
		for range 200 {
			switch r.Intn(slow + 4) {
			case 0:
				u, p, ok := l.Next()
				v, q, have := m.next()
				if u != v || ok != have || !bytes.Equal(p, q) {
					t.Fatalf("P7.1: Next = %d, %x, %v; want %d, %x, %v", u, p, ok, v, q, have)
				}
			case 1, 2:
				b := randomFeed(r, unit)
				cut := r.Intn(len(b) + 1)
				for _, piece := range [][]byte{b[:cut], b[cut:]} {
					l.Feed(piece)
					m.feed(piece)
				}
			default:
				for range max(silence-r.Intn(2), 1) {
					l.Tick()
					m.tick()
				}
			}
			want(t, "any calls", l, m.left(), len(m.wait))
		}
	}
}

// P7.2: behind a silence a line is as new: whatever came ahead of it, what comes
// then is told as a new line tells it.
func TestAsNew(t *testing.T) {
	r := rand.New(rand.NewSource(6))
	for range 500 {
		used, fresh := New(4, 3), New(4, 3)
		for range r.Intn(20) {
			used.Feed(randomBytes(r, r.Intn(300)))
			ticks(used, r.Intn(5))
		}
		ticks(used, 3)
		for range 8 {
			used.Next()
		}
		for range 30 {
			b, n := randomFeed(r, 4), r.Intn(5)
			for _, l := range []*Line{used, fresh} {
				l.Feed(b)
				ticks(l, n)
			}
			if used.Left() != fresh.Left() || used.Waits() != fresh.Waits() {
				t.Fatalf("P7.2: %d bytes, %d frames; a new line has %d, %d", used.Left(), used.Waits(), fresh.Left(), fresh.Waits())
			}
		}
		for range 9 {
			u, p, ok := used.Next()
			v, q, have := fresh.Next()
			if u != v || ok != have || !bytes.Equal(p, q) {
				t.Fatalf("P7.2: Next = %d, %x, %v; a new line's is %d, %x, %v", u, p, ok, v, q, have)
			}
		}
	}
}

// P7.1: one line's bytes, silence and frames are no other's.
func TestLinesApart(t *testing.T) {
	a, b := New(4, 2), New(5, 2)
	a.Feed(laid(4, 1))
	b.Feed(laid(5, 2))
	ticks(a, 2)
	want(t, "one", a, 0, 1)
	want(t, "other", b, 4, 0)
	b.Tick()
	want(t, "other", b, 4, 0)
	b.Tick()
	wantTold(t, "other", b, 5, []byte{2})
	wantTold(t, "one", a, 4, []byte{1})
}

// What holds everywhere: what is fed isn't changed, the room behind it neither,
// and isn't kept; a PDU that was told is the caller's alone.
func TestNewMemory(t *testing.T) {
	room := bytes.Repeat([]byte{0xEE}, 400)
	in := room[:copy(room, laid(4, 1, 2, 3))]
	before := slices.Clone(room)
	l := New(4, 1)
	l.Feed(in)
	if !bytes.Equal(room, before) {
		t.Error("P7.1: what was fed is changed")
	}
	fill(room, 0x55)
	l.Tick()
	l.Feed(laid(4, 7, 8, 9))
	l.Tick()
	_, first, _ := l.Next()
	if !bytes.Equal(first, []byte{1, 2, 3}) {
		t.Errorf("P7.1: the first frame is %x: what was fed is kept", first)
	}
	fill(first[:cap(first)], 0x77)
	_, second, _ := l.Next()
	if !bytes.Equal(second, []byte{7, 8, 9}) {
		t.Errorf("P7.1: the second frame is %x", second)
	}
	for range 20 {
		l.Feed(bytes.Repeat([]byte{0xFF}, 300))
		l.Tick()
		l.Feed(laid(4, 6, 6, 6))
		l.Tick()
	}
	if !bytes.Equal(first, []byte{0x77, 0x77, 0x77}) || !bytes.Equal(second, []byte{7, 8, 9}) {
		t.Error("P7.1: a PDU that was told is changed by what comes behind it")
	}
	if !bytes.Equal(room, bytes.Repeat([]byte{0x55}, 400)) {
		t.Error("P7.1: what was fed is kept")
	}
}

func fill(b []byte, x byte) {
	for i := range b {
		b[i] = x
	}
}
