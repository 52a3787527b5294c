package stream

import (
	"bytes"
	"math/rand"
	"slices"
	"sync"
	"testing"

	"rung/api"
)

// laid is a frame's bytes, laid out beside mbap's way.
func laid(f api.Frame) []byte {
	n := len(f.Pdu) + 1
	b := []byte{byte(f.Id / 256), byte(f.Id % 256), 0, 0, byte(n / 256), byte(n % 256), f.Unit}
	return append(b, f.Pdu...)
}

func randomBytes(r *rand.Rand, n int) []byte {
	b := make([]byte, n)
	r.Read(b)
	return b
}

func randomFrame(r *rand.Rand, n int) api.Frame {
	return api.Frame{Id: uint16(r.Intn(1 << 16)), Unit: byte(r.Intn(256)), Pdu: randomBytes(r, n)}
}

func same(a, b api.Frame) bool {
	return a.Id == b.Id && a.Unit == b.Unit && bytes.Equal(a.Pdu, b.Pdu)
}

// model is a stream by the chapter's words: a list of bytes, and no bound but
// the one that Feed keeps.
type model struct {
	held   []byte
	told   uint64
	broken bool
}

func (m *model) feed(b []byte) int {
	if m.broken {
		return 0
	}
	n := min(len(b), 260-len(m.held))
	m.held = append(m.held, b[:n]...)
	return n
}

func (m *model) next() (api.Frame, bool, api.Errno) {
	b := m.held
	if len(b) < 6 {
		return api.Frame{}, false, api.OK
	}
	n := int(b[4])*256 + int(b[5])
	switch {
	case b[2] != 0 || b[3] != 0:
		m.broken = true
		return api.Frame{}, false, api.ErrMbapForm
	case n < 2 || n > 254:
		m.broken = true
		return api.Frame{}, false, api.ErrMbapLen
	case len(b) < 6+n:
		return api.Frame{}, false, api.OK
	}
	m.held = slices.Clone(b[6+n:])
	m.told++
	return api.Frame{Id: uint16(b[0])*256 + uint16(b[1]), Unit: b[6], Pdu: slices.Clone(b[7 : 6+n])}, true, api.OK
}

// wantNone asks for zeros, false and e, with left bytes held before and after.
func wantNone(t *testing.T, what string, s *Stream, e api.Errno, left int) {
	t.Helper()
	if s.Left() != left {
		t.Fatalf("P6.1: %s: %d bytes are held; want %d", what, s.Left(), left)
	}
	told := s.Frames()
	f, ok, got := s.Next()
	if ok || got != e || !same(f, api.Frame{}) {
		t.Fatalf("P6.1: %s: Next = %v, %v, %d; want zeros, false, %d", what, f, ok, got, e)
	}
	if s.Left() != left || s.Frames() != told {
		t.Fatalf("P6.1: %s: behind Next %d bytes, %d frames; want %d, %d", what, s.Left(), s.Frames(), left, told)
	}
}

// wantFrame asks for f, with left bytes held behind it.
func wantFrame(t *testing.T, what string, s *Stream, f api.Frame, left int) {
	t.Helper()
	told := s.Frames()
	got, ok, e := s.Next()
	if !ok || e != api.OK || !same(got, f) {
		t.Fatalf("P6.1: %s: Next = %v, %v, %d; want %v", what, got, ok, e, f)
	}
	if s.Left() != left || s.Frames() != told+1 {
		t.Fatalf("P6.1: %s: behind Next %d bytes, %d frames; want %d, %d", what, s.Left(), s.Frames(), left, told+1)
	}
}

func wantFed(t *testing.T, what string, s *Stream, b []byte, n int) {
	t.Helper()
	left := s.Left()
	if got := s.Feed(b); got != n || s.Left() != left+n {
		t.Fatalf("P6.1: %s: Feed of %d bytes behind %d = %d, and %d are held; want %d, %d", what, len(b), left, got, s.Left(), n, left+n)
	}
}

// P6.1: the chapter's example.
func TestExample(t *testing.T) {
	f := api.Frame{Id: 1, Unit: 17, Pdu: []byte{3}}
	b := []byte{0, 1, 0, 0, 0, 2, 0x11, 3}
	s := New()
	wantNone(t, "new", s, api.OK, 0)
	wantFed(t, "the first piece", s, b[:3], 3)
	wantNone(t, "the first piece", s, api.OK, 3)
	wantFed(t, "the second piece", s, b[3:7], 4)
	wantNone(t, "the second piece", s, api.OK, 7)
	wantFed(t, "the third piece", s, b[7:], 1)
	wantFrame(t, "the third piece", s, f, 0)
	wantNone(t, "behind it", s, api.OK, 0)
	if s.Frames() != 1 {
		t.Errorf("P6.1: %d frames; want 1", s.Frames())
	}
}

// P6.1: nothing of no bytes.
func TestFeedNothing(t *testing.T) {
	s := New()
	wantFed(t, "no list", s, nil, 0)
	wantFed(t, "no bytes", s, []byte{}, 0)
	wantFed(t, "spare room alone", s, make([]byte, 0, 9), 0)
	wantNone(t, "nothing", s, api.OK, 0)
	wantFed(t, "a byte", s, []byte{1}, 1)
	wantFed(t, "no list", s, nil, 0)
	wantNone(t, "a byte", s, api.OK, 1)
}

// P6.1: of each number of bytes behind each number that is held, those are
// taken that there is room for.
func TestRoom(t *testing.T) {
	long := laid(api.Frame{Id: 7, Unit: 8, Pdu: bytes.Repeat([]byte{9}, 253)})
	if len(long) != api.MaxAdu {
		t.Fatalf("the longest frame has %d bytes", len(long))
	}
	all := slices.Concat(long, long, long)
	for held := range 261 {
		for _, n := range []int{0, 1, 2, 259 - held, 260 - held, 261 - held, 260, 261, 519} {
			if n < 0 {
				continue
			}
			s := New()
			wantFed(t, "the beginning", s, all[:held], held)
			wantFed(t, "behind it", s, all[held:held+n], min(n, 260-held))
		}
	}
}

// P6.1: the longest frame fills a stream; a byte less isn't whole; a byte more
// isn't taken till Next has made room.
func TestLongest(t *testing.T) {
	r := rand.New(rand.NewSource(1))
	f, g := randomFrame(r, 253), randomFrame(r, 253)
	b := slices.Concat(laid(f), laid(g))
	s := New()
	wantFed(t, "a byte less", s, b[:259], 259)
	wantNone(t, "a byte less", s, api.OK, 259)
	wantFed(t, "a byte more", s, b[259:261], 1)
	wantFed(t, "a full stream", s, b[260:], 0)
	wantFrame(t, "a full stream", s, f, 0)
	wantFed(t, "room again", s, b[260:], 260)
	wantFrame(t, "the second", s, g, 0)
	wantNone(t, "behind both", s, api.OK, 0)

	wantFed(t, "at once", s, b, 260)
	wantFrame(t, "at once", s, f, 0)
}

// P6.1: frames are told in their order, one a call, and what stands behind one
// stays held.
func TestOneByOne(t *testing.T) {
	r := rand.New(rand.NewSource(2))
	s := New()
	var frames []api.Frame
	var b []byte
	for n := 1; len(b)+7+n <= 260; n++ {
		f := randomFrame(r, n)
		frames, b = append(frames, f), append(b, laid(f)...)
	}
	b = append(b, 1, 2, 3)
	wantFed(t, "many frames", s, b, len(b))
	left := len(b)
	for i, f := range frames {
		left -= 7 + len(f.Pdu)
		wantFrame(t, "many frames", s, f, left)
		if s.Frames() != uint64(i+1) {
			t.Fatalf("P6.1: %d frames; want %d", s.Frames(), i+1)
		}
	}
	wantNone(t, "behind all", s, api.OK, 3)
	wantFed(t, "the rest", s, []byte{0, 0, 2, 4, 5, 6}, 6)
	wantNone(t, "three bytes, and 0 0 2", s, api.ErrMbapForm, 9)
}

// wantBroken asks that e stays for good, and nothing is taken any more.
func wantBroken(t *testing.T, what string, s *Stream, e api.Errno) {
	t.Helper()
	left := s.Left()
	right := laid(api.Frame{Id: 1, Unit: 2, Pdu: []byte{3}})
	for range 3 {
		wantNone(t, what, s, e, left)
		wantFed(t, what, s, right, 0)
		wantFed(t, what, s, nil, 0)
		wantFed(t, what, s, make([]byte, 300), 0)
	}
}

// P6.1: lengths outside 2 to 254, and other protocols, as soon as six bytes
// are there, be there more or not.
func TestErrors(t *testing.T) {
	cases := []struct {
		b []byte
		e api.Errno
	}{
		{[]byte{0, 0, 0, 0, 0, 0}, api.ErrMbapLen},
		{[]byte{0, 0, 0, 0, 0, 1}, api.ErrMbapLen},
		{[]byte{9, 9, 0, 0, 0, 255}, api.ErrMbapLen},
		{[]byte{0, 0, 0, 0, 1, 0}, api.ErrMbapLen},
		{[]byte{0, 0, 0, 0, 1, 2}, api.ErrMbapLen},
		{[]byte{0, 0, 0, 0, 255, 255}, api.ErrMbapLen},
		{[]byte{0, 0, 0, 1, 0, 2}, api.ErrMbapForm},
		{[]byte{0, 0, 1, 0, 0, 2}, api.ErrMbapForm},
		{[]byte{0, 0, 255, 255, 0, 0}, api.ErrMbapForm},
	}
	good := api.Frame{Id: 3, Unit: 4, Pdu: []byte{5, 6}}
	for _, c := range cases {
		for _, more := range []int{0, 1, 2, 100, 254, 300} {
			s := New()
			b := append(slices.Clone(c.b), make([]byte, more)...)
			wantFed(t, "five bytes", s, b[:5], 5)
			wantNone(t, "five bytes", s, api.OK, 5)
			wantFed(t, "the rest", s, b[5:], min(len(b)-5, 255))
			wantBroken(t, "at the beginning", s, c.e)
			if s.Frames() != 0 {
				t.Fatalf("P6.1: %d frames ahead of an error", s.Frames())
			}

			s = New()
			b = append(laid(good), b...)
			wantFed(t, "a frame, then no frame", s, b, min(len(b), 260))
			wantFrame(t, "ahead of no frame", s, good, min(len(b), 260)-9)
			wantBroken(t, "behind a frame", s, c.e)
			if s.Frames() != 1 {
				t.Fatalf("P6.1: %d frames behind one and an error", s.Frames())
			}
		}
	}
}

// P6.1: an error is one when Next has told it; bytes that are fed ahead of that
// are taken, and don't change it.
func TestErrorNotToldYet(t *testing.T) {
	s := New()
	wantFed(t, "no frame", s, []byte{0, 0, 0, 0, 0, 1}, 6)
	wantFed(t, "behind it", s, []byte{0, 0, 0, 0, 0, 2, 1, 3}, 8)
	wantFed(t, "up to the bound", s, make([]byte, 300), 246)
	wantBroken(t, "told", s, api.ErrMbapLen)
}

// P6.1: one stream's error is no other's.
func TestStreamsApart(t *testing.T) {
	a, b := New(), New()
	f := api.Frame{Id: 1, Unit: 2, Pdu: []byte{3}}
	wantFed(t, "one", a, make([]byte, 6), 6)
	wantFed(t, "other", b, laid(f)[:7], 7)
	wantBroken(t, "one", a, api.ErrMbapLen)
	wantFed(t, "other", b, laid(f)[7:], 1)
	wantFrame(t, "other", b, f, 0)
	if a.Frames() != 0 || b.Frames() != 1 {
		t.Errorf("P6.1: %d, %d frames; want 0, 1", a.Frames(), b.Frames())
	}
}

// randomRow is bytes that are frames for the most part, with some that are none.
func randomRow(r *rand.Rand) []byte {
	var b []byte
	for range r.Intn(12) {
		size := 1 + r.Intn(12)
		if r.Intn(3) == 0 {
			size = 1 + r.Intn(253)
		}
		part := laid(randomFrame(r, size))
		if r.Intn(25) == 0 {
			part[2+r.Intn(4)] = byte(r.Intn(256))
		}
		b = append(b, part...)
	}
	return append(b, randomBytes(r, r.Intn(6))...)
}

// P6.1: calls in any order, held against the chapter's words.
func TestAnyCalls(t *testing.T) {
	r := rand.New(rand.NewSource(3))
	for range 3000 {
		s, m := New(), &model{}
		b := randomRow(r)
		for range 80 {
			if r.Intn(2) == 0 {
				k := r.Intn(min(len(b), 1+r.Intn(400)) + 1)
				n, want := s.Feed(b[:k]), m.feed(b[:k])
				if n != want {
					t.Fatalf("P6.1: Feed of %d bytes = %d; want %d", k, n, want)
				}
				b = b[n:]
			} else {
				f, ok, e := s.Next()
				g, have, want := m.next()
				if ok != have || e != want || !same(f, g) {
					t.Fatalf("P6.1: Next = %v, %v, %d; want %v, %v, %d", f, ok, e, g, have, want)
				}
			}
			if s.Left() != len(m.held) || s.Frames() != m.told {
				t.Fatalf("P6.1: %d bytes, %d frames; want %d, %d", s.Left(), s.Frames(), len(m.held), m.told)
			}
		}
	}
}

// allOf is what a row of bytes tells as a whole: its frames, and the error
// behind them.
func allOf(b []byte) ([]api.Frame, api.Errno) {
	m := &model{held: b}
	var frames []api.Frame
	f, ok, e := m.next()
	for ; ok; f, ok, e = m.next() {
		frames = append(frames, f)
	}
	return frames, e
}

// cut feeds b in pieces as P6.2 says: piece tells how long the next one is
// (at least 1).
func cut(t *testing.T, b []byte, piece func() int) ([]api.Frame, api.Errno) {
	t.Helper()
	s := New()
	var frames []api.Frame
	for len(b) > 0 {
		n := s.Feed(b[:min(len(b), piece())])
		b = b[n:]
		f, ok, e := s.Next()
		for ; ok && e == api.OK; f, ok, e = s.Next() {
			frames = append(frames, f)
		}
		if e != api.OK {
			return frames, e
		}
		if n == 0 {
			t.Fatalf("P6.2: with %d bytes held nothing is taken, and nothing told", s.Left())
		}
	}
	return frames, api.OK
}

func wantSame(t *testing.T, b []byte, piece func() int) {
	t.Helper()
	want, wrong := allOf(b)
	got, e := cut(t, b, piece)
	if e != wrong || !slices.EqualFunc(got, want, same) {
		t.Fatalf("P6.2: %x, in pieces: %v, %d; want %v, %d", b, got, e, want, wrong)
	}
}

// P6.2: each way to cut two frames, alone and ahead of bytes that are none.
func TestEveryCut(t *testing.T) {
	frames := slices.Concat(laid(api.Frame{Id: 1, Unit: 17, Pdu: []byte{3}}), laid(api.Frame{Id: 2, Pdu: []byte{4}}))
	rows := [][]byte{
		frames,
		slices.Concat(frames[:8], []byte{0, 0, 0, 0, 0, 1, 2}),
		slices.Concat(frames[:8], []byte{0, 0, 0, 7, 0, 1}),
		frames[:15],
	}
	for _, b := range rows {
		for cuts := range 1 << (len(b) - 1) {
			at := 0
			wantSame(t, b, func() int {
				n := 1
				for at++; at < len(b) && cuts>>(at-1)&1 == 0; at++ {
					n++
				}
				return n
			})
		}
	}
}

// P6.2: rows of any length, in pieces of one length and in pieces of any.
func TestAnyCut(t *testing.T) {
	r := rand.New(rand.NewSource(4))
	for range 1000 {
		b := randomRow(r)
		for _, n := range []int{1, 2, 3, 5, 6, 7, 8, 13, 255, 259, 260, 261, 1000} {
			wantSame(t, b, func() int { return n })
		}
		most := 1 + r.Intn(600)
		wantSame(t, b, func() int { return 1 + r.Intn(most) })
	}
	// Any bytes at all: mostly no frames, and refused at the same place.
	for range 2000 {
		b := randomBytes(r, r.Intn(40))
		wantSame(t, b, func() int { return 1 + r.Intn(9) })
	}
}

// P6.2: a long row of longest frames is told whole: a full stream never stands
// still.
func TestLongRow(t *testing.T) {
	r := rand.New(rand.NewSource(5))
	var b []byte
	for n := range 200 {
		b = append(b, laid(randomFrame(r, 253-n%3))...)
	}
	wantSame(t, b, func() int { return len(b) })
	wantSame(t, b, func() int { return 1 + r.Intn(600) })
}

// What holds everywhere: what is fed isn't changed, the room behind it neither,
// and isn't kept; a frame that was told is the caller's alone.
func TestNewMemory(t *testing.T) {
	f := api.Frame{Id: 1, Unit: 2, Pdu: []byte{3, 4, 5}}
	g := api.Frame{Id: 6, Unit: 7, Pdu: []byte{8, 9, 10}}
	room := bytes.Repeat([]byte{0xEE}, 400)
	in := room[:copy(room, slices.Concat(laid(f), laid(g), laid(f)))]
	before := slices.Clone(room)
	s := New()
	wantFed(t, "three frames", s, in, 30)
	first, _, _ := s.Next()
	if !bytes.Equal(room, before) {
		t.Error("P6.1: what was fed is changed")
	}
	fill(room, 0x55)
	fill(first.Pdu[:cap(first.Pdu)], 0x77)
	second, _, _ := s.Next()
	if !same(second, g) {
		t.Errorf("P6.1: the second frame is %v; want %v", second, g)
	}
	wantFrame(t, "the third", s, f, 0)
	wantFed(t, "ones", s, bytes.Repeat([]byte{0xFF}, 260), 260)
	if !same(second, g) || !bytes.Equal(first.Pdu, []byte{0x77, 0x77, 0x77}) {
		t.Error("P6.1: a frame that was told is changed by what comes behind it")
	}
	if !bytes.Equal(room, bytes.Repeat([]byte{0x55}, 400)) {
		t.Error("P6.1: what was fed is kept")
	}
}

func fill(b []byte, x byte) {
	for i := range b {
		b[i] = x
	}
}

// P6.1: the count may be asked for while frames are told; it never falls.
func TestFramesWhileTelling(t *testing.T) {
	b := laid(api.Frame{Id: 1, Unit: 2, Pdu: []byte{3}})
	s := New()
	var wait sync.WaitGroup
	for range 4 {
		wait.Go(func() {
			last := uint64(0)
			for range 5000 {
				n := s.Frames()
				if n < last || n > 1000 {
					t.Errorf("P6.1: %d frames behind %d", n, last)
					return
				}
				last = n
			}
		})
	}
	for range 1000 {
		s.Feed(b)
		s.Next()
	}
	wait.Wait()
	if s.Frames() != 1000 {
		t.Errorf("P6.1: %d frames; want 1000", s.Frames())
	}
}
