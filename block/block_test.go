package block

import (
	"bytes"
	"math"
	"math/rand"
	"slices"
	"testing"

	"rung/api"
)

func randomBytes(r *rand.Rand, n int) []byte {
	b := make([]byte, n)
	r.Read(b)
	return b
}

// full is a block's bytes, all of them x.
func full(s *Store, x byte) []byte { return bytes.Repeat([]byte{x}, s.Size()) }

// model is a store by the chapter's words: each block a list of its own, a cut
// by the number of writes that were done when it was asked for.
type model struct {
	blocks   [][]byte
	size     int
	done     int
	cut      bool
	since    int
	n        int
	prefix   int
	powerOff bool
}

func newModel(blocks, size int) *model {
	m := &model{size: size}
	for range blocks {
		m.blocks = append(m.blocks, make([]byte, size))
	}
	return m
}

func (m *model) read(i int) ([]byte, api.Errno) {
	switch {
	case m.powerOff:
		return nil, api.ErrBlockDead
	case i < 0 || i >= len(m.blocks):
		return nil, api.ErrBlockNone
	}
	return m.blocks[i], api.OK
}

func (m *model) write(i int, b []byte) api.Errno {
	switch {
	case m.powerOff:
		return api.ErrBlockDead
	case i < 0 || i >= len(m.blocks):
		return api.ErrBlockNone
	case len(b) != m.size:
		return api.ErrBlockSize
	case m.cut && m.done-m.since == m.n:
		m.powerOff = true
		for at := range m.size {
			if at < m.prefix {
				m.blocks[i][at] = b[at]
			}
		}
		return api.ErrBlockDead
	}
	m.blocks[i] = slices.Clone(b)
	m.done++
	return api.OK
}

func (m *model) cutAt(n, prefix int) {
	m.cut, m.since, m.n, m.prefix = n >= 0, m.done, n, prefix
}

func (m *model) power() { m.powerOff, m.cut = false, false }

func (m *model) spoil(i, at int, x byte) {
	if !m.powerOff && i >= 0 && i < len(m.blocks) && at >= 0 && at < m.size {
		m.blocks[i][at] ^= x
	}
}

func (m *model) copied() *model {
	c := *m
	c.blocks = nil
	for _, b := range m.blocks {
		c.blocks = append(c.blocks, slices.Clone(b))
	}
	return &c
}

// wantSame holds all that a store tells against the model.
func wantSame(t *testing.T, what string, s *Store, m *model) {
	t.Helper()
	if s.Blocks() != len(m.blocks) || s.Size() != m.size {
		t.Fatalf("P8.1: %s: %d blocks of %d; want %d of %d", what, s.Blocks(), s.Size(), len(m.blocks), m.size)
	}
	if s.Writes() != m.done || s.Dead() != m.powerOff {
		t.Fatalf("P8.1, P8.2: %s: %d writes, dead %v; want %d, %v", what, s.Writes(), s.Dead(), m.done, m.powerOff)
	}
	for i := -1; i <= len(m.blocks); i++ {
		b, e := s.Read(i)
		if c, f := m.read(i); e != f || !bytes.Equal(b, c) {
			t.Fatalf("P8.1, P8.2: %s: block %d: %x, %v; want %x, %v", what, i, b, e, c, f)
		}
	}
}

func wantBlock(t *testing.T, what string, s *Store, i int, want []byte) {
	t.Helper()
	if b, e := s.Read(i); e != api.OK || !bytes.Equal(b, want) {
		t.Fatalf("P8.1, P8.2: %s: block %d: %x, %v; want %x", what, i, b, e, want)
	}
}

func wantWrite(t *testing.T, what string, s *Store, i int, b []byte, want api.Errno) {
	t.Helper()
	if e := s.Write(i, b); e != want {
		t.Fatalf("P8.1, P8.2: %s: Write(%d, %d bytes) = %v; want %v", what, i, len(b), e, want)
	}
}

func wantState(t *testing.T, what string, s *Store, writes int, dead bool) {
	t.Helper()
	if s.Writes() != writes || s.Dead() != dead {
		t.Fatalf("P8.1, P8.2: %s: %d writes, dead %v; want %d, %v", what, s.Writes(), s.Dead(), writes, dead)
	}
}

// P8.2: the chapter's example.
func TestExample(t *testing.T) {
	s := New(4, 16)
	s.Cut(0, 2)
	wantWrite(t, "the example", s, 0, []byte("abcdefghijklmnop"), api.ErrBlockDead)
	s.Power()
	wantBlock(t, "the example", s, 0, append([]byte("ab"), make([]byte, 14)...))
}

// P8.1: as many blocks of as many bytes as was asked for, within the bounds;
// zeros, all of them; nothing was written.
func TestNew(t *testing.T) {
	bound := func(n, low, high int) int {
		if n < low {
			return low
		}
		if n > high {
			return high
		}
		return n
	}
	counts := []int{math.MinInt, -64, -1, 0, 1, 2, 3, 63, 64, 65, 1 << 32, math.MaxInt}
	sizes := []int{math.MinInt, -4096, -1, 0, 1, 15, 16, 17, 100, 512, 4095, 4096, 4097, 1 << 32, math.MaxInt}
	for _, count := range counts {
		for _, size := range sizes {
			wantSame(t, "new", New(count, size), newModel(bound(count, 1, 64), bound(size, 16, 4096)))
		}
	}
}

// P8.1: each block holds what was written to it, the first, the last and those
// between them, and no other block changes.
func TestEachBlock(t *testing.T) {
	for _, count := range []int{1, 2, 7, 64} {
		s, m := New(count, 17), newModel(count, 17)
		for round := range 3 {
			for i := range count {
				b := full(s, byte(1+count*round+i))
				b[0], b[16] = byte(i), byte(round)
				wantWrite(t, "each block", s, i, b, m.write(i, b))
				wantSame(t, "each block", s, m)
			}
		}
		wantState(t, "each block", s, 3*count, false)
	}
}

// P8.1: what is refused, in the order of its errors; nothing changes by it.
func TestRefused(t *testing.T) {
	s, m := New(3, 16), newModel(3, 16)
	first := full(s, 5)
	wantWrite(t, "a block", s, 1, first, m.write(1, first))
	for _, i := range []int{math.MinInt, -3, -1, 3, 4, 64, math.MaxInt} {
		for _, n := range []int{0, 15, 16, 17} {
			wantWrite(t, "no such block", s, i, make([]byte, n), api.ErrBlockNone)
		}
		if b, e := s.Read(i); e != api.ErrBlockNone || len(b) != 0 {
			t.Errorf("P8.1: Read(%d) = %x, %v", i, b, e)
		}
	}
	for i := range 3 {
		for n := range 50 {
			if n != 16 {
				wantWrite(t, "not a block's bytes", s, i, bytes.Repeat([]byte{9}, n), api.ErrBlockSize)
			}
		}
		wantWrite(t, "nil", s, i, nil, api.ErrBlockSize)
	}
	wantWrite(t, "far too many bytes", s, 0, make([]byte, 1<<20), api.ErrBlockSize)
	wantSame(t, "refused", s, m)

	s.Cut(0, 0)
	wantWrite(t, "torn", s, 0, first, api.ErrBlockDead)
	for _, i := range []int{math.MinInt, -1, 0, 2, 3, math.MaxInt} {
		for _, n := range []int{0, 16, 17} {
			wantWrite(t, "dead", s, i, make([]byte, n), api.ErrBlockDead)
		}
		if b, e := s.Read(i); e != api.ErrBlockDead || len(b) != 0 {
			t.Errorf("P8.1: dead: Read(%d) = %x, %v", i, b, e)
		}
	}
	s.Power()
	wantSame(t, "behind it all", s, m)
}

// P8.2: of the write that tears the first prefix bytes are there, the others
// as they were; no other block changes, and it doesn't count as done.
func TestPrefix(t *testing.T) {
	r := rand.New(rand.NewSource(1))
	for _, size := range []int{16, 17, 64} {
		prefixes := []int{math.MinInt, -size, math.MaxInt}
		for p := -3; p <= size+3; p++ {
			prefixes = append(prefixes, p)
		}
		for _, prefix := range prefixes {
			s := New(3, size)
			old := [][]byte{randomBytes(r, size), randomBytes(r, size), randomBytes(r, size)}
			for i, b := range old {
				wantWrite(t, "at first", s, i, b, api.OK)
			}
			b := randomBytes(r, size)
			s.Cut(0, prefix)
			wantState(t, "a cut that is due", s, 3, false)
			wantWrite(t, "torn", s, 1, b, api.ErrBlockDead)
			wantState(t, "torn", s, 3, true)
			s.Power()
			wantState(t, "power again", s, 3, false)
			p := max(0, min(prefix, size))
			wantBlock(t, "torn", s, 1, slices.Concat(b[:p], old[1][p:]))
			wantBlock(t, "the one ahead", s, 0, old[0])
			wantBlock(t, "the one behind", s, 2, old[2])
			wantWrite(t, "behind power", s, 1, b, api.OK)
			wantBlock(t, "behind power", s, 1, b)
		}
	}
}

// P8.2: as many writes are done as the cut said, whichever blocks they are of;
// reads, refused writes and spoilt bytes don't count.
func TestCutCounts(t *testing.T) {
	for n := range 20 {
		s := New(3, 16)
		wantWrite(t, "ahead of the cut", s, 0, full(s, 0xAA), api.OK)
		s.Cut(n, 8)
		for k := range n {
			for i := -1; i < 4; i++ {
				s.Read(i)
			}
			wantWrite(t, "no such block", s, 3, full(s, 1), api.ErrBlockNone)
			wantWrite(t, "no such block", s, -1, full(s, 1), api.ErrBlockNone)
			wantWrite(t, "not its bytes", s, 0, nil, api.ErrBlockSize)
			s.Spoil(2, 3, 1)
			s.Spoil(9, 3, 1)
			s.Copy().Write(0, full(s, 7))
			wantWrite(t, "ahead of the tear", s, k%3, full(s, byte(k)), api.OK)
			wantState(t, "ahead of the tear", s, k+2, false)
		}
		wantWrite(t, "no such block", s, 3, full(s, 1), api.ErrBlockNone)
		wantWrite(t, "not its bytes", s, 0, nil, api.ErrBlockSize)
		wantState(t, "refused where a cut is due", s, n+1, false)
		wantWrite(t, "the tear", s, n%3, full(s, 0xEE), api.ErrBlockDead)
		wantState(t, "the tear", s, n+1, true)
		wantWrite(t, "behind the tear", s, n%3, full(s, 0xDD), api.ErrBlockDead)
		wantState(t, "behind the tear", s, n+1, true)
	}
}

// P8.2: n below 0: no write tears; nor in any while with a great one.
func TestCutNever(t *testing.T) {
	for _, n := range []int{math.MinInt, -3, -2, -1, math.MaxInt, 1 << 40} {
		s := New(1, 16)
		s.Cut(n, 4)
		for k := range 300 {
			wantWrite(t, "never", s, 0, full(s, byte(k)), api.OK)
		}
		wantState(t, "never", s, 300, false)
		wantBlock(t, "never", s, 0, full(s, 299%256))
	}
}

// P8.2: a Cut stands in the place of the one ahead of it.
func TestCutAnew(t *testing.T) {
	s := New(1, 16)
	s.Cut(0, 1)
	s.Cut(-1, 2)
	wantWrite(t, "never", s, 0, full(s, 1), api.OK)
	s.Cut(0, 1)
	s.Cut(1, 5)
	wantWrite(t, "later", s, 0, full(s, 2), api.OK)
	s.Cut(1, 7)
	wantWrite(t, "later again", s, 0, full(s, 3), api.OK)
	s.Cut(5, 2)
	s.Cut(0, 9)
	wantWrite(t, "sooner", s, 0, full(s, 4), api.ErrBlockDead)
	s.Power()
	wantBlock(t, "the last prefix", s, 0, append(full(s, 4)[:9], full(s, 3)[9:]...))
	wantState(t, "cuts anew", s, 3, false)
}

// P8.2: a dead store stays dead, whatever it is told but Power, which takes
// any Cut back, those of its death as well.
func TestDeadStays(t *testing.T) {
	for _, n := range []int{math.MinInt, -1, 0, 1, 5, math.MaxInt} {
		s := New(2, 16)
		wantWrite(t, "at first", s, 0, full(s, 1), api.OK)
		s.Cut(0, 3)
		wantWrite(t, "torn", s, 0, full(s, 2), api.ErrBlockDead)
		s.Cut(n, 16)
		wantState(t, "a cut of a dead one", s, 1, true)
		s.Spoil(0, 0, 0xFF)
		wantWrite(t, "dead", s, 1, full(s, 3), api.ErrBlockDead)
		if _, e := s.Read(0); e != api.ErrBlockDead {
			t.Errorf("P8.2: dead: Read answers %v", e)
		}
		if s.Blocks() != 2 || s.Size() != 16 {
			t.Errorf("P8.1: dead: %d blocks of %d", s.Blocks(), s.Size())
		}
		s.Power()
		wantState(t, "power", s, 1, false)
		wantBlock(t, "power", s, 0, append(full(s, 2)[:3], full(s, 1)[3:]...))
		wantBlock(t, "power", s, 1, full(s, 0))
		for k := range 20 {
			wantWrite(t, "the cut is taken back", s, 1, full(s, byte(k)), api.OK)
		}
		wantState(t, "the cut is taken back", s, 21, false)
	}
}

// P8.2: Power of a store that lives takes its Cut back, and that is all.
func TestPowerOfLiving(t *testing.T) {
	s := New(2, 16)
	s.Power()
	wantState(t, "a new one", s, 0, false)
	wantWrite(t, "at first", s, 1, full(s, 1), api.OK)
	for n := range 4 {
		s.Cut(n, 2)
		s.Power()
		for k := range 6 {
			wantWrite(t, "taken back", s, 0, full(s, byte(k)), api.OK)
		}
	}
	wantState(t, "taken back", s, 25, false)
	wantBlock(t, "taken back", s, 0, full(s, 5))
	wantBlock(t, "taken back", s, 1, full(s, 1))
}

// P8.2: Spoil turns x's bits of one byte, that one alone; it is no write.
func TestSpoil(t *testing.T) {
	s, m := New(3, 16), newModel(3, 16)
	for i := range 3 {
		b := full(s, byte(0x30+i))
		wantWrite(t, "at first", s, i, b, m.write(i, b))
	}
	for i := range 3 {
		for at := range 16 {
			for _, x := range []byte{0, 1, 0x80, 0x5A, 0xFF} {
				s.Spoil(i, at, x)
				m.blocks[i][at] ^= x
				wantSame(t, "one byte", s, m)
			}
		}
	}
	for x := range 256 {
		b, _ := s.Read(2)
		s.Spoil(2, 15, byte(x))
		b[15] ^= byte(x)
		wantBlock(t, "any bits", s, 2, b)
		s.Spoil(2, 15, byte(x))
	}
	for _, i := range []int{math.MinInt, -1, 3, 4, math.MaxInt} {
		for _, at := range []int{math.MinInt, -1, 0, 15, 16, math.MaxInt} {
			s.Spoil(i, at, 0xFF)
		}
	}
	for i := range 3 {
		for _, at := range []int{math.MinInt, -16, -1, 16, 17, 32, math.MaxInt} {
			s.Spoil(i, at, 0xFF)
		}
	}
	wantSame(t, "no such byte", s, m)
}

// P8.2: a byte that is spoilt where a cut is due is so behind the tear too,
// unless the prefix reaches it.
func TestSpoilAheadOfTear(t *testing.T) {
	s := New(1, 16)
	s.Cut(0, 4)
	s.Spoil(0, 3, 0x11)
	s.Spoil(0, 4, 0x22)
	wantWrite(t, "torn", s, 0, full(s, 9), api.ErrBlockDead)
	s.Power()
	want := append(full(s, 9)[:4], make([]byte, 12)...)
	want[4] = 0x22
	wantBlock(t, "torn", s, 0, want)
}

// P8.2: a copy has the same bytes, writes, cut and power, and goes its own way
// from there, as the other one does.
func TestCopy(t *testing.T) {
	s := New(2, 16)
	wantWrite(t, "at first", s, 1, full(s, 1), api.OK)
	s.Cut(1, 5)
	c := s.Copy()
	if c.Blocks() != 2 || c.Size() != 16 {
		t.Errorf("P8.2: a copy of %d blocks of %d", c.Blocks(), c.Size())
	}
	wantState(t, "a copy", c, 1, false)
	wantBlock(t, "a copy", c, 0, full(s, 0))
	wantBlock(t, "a copy", c, 1, full(s, 1))

	wantWrite(t, "the first", s, 0, full(s, 2), api.OK)
	s.Spoil(1, 0, 1)
	wantState(t, "the copy keeps", c, 1, false)
	wantBlock(t, "the copy keeps", c, 0, full(s, 0))
	wantBlock(t, "the copy keeps", c, 1, full(s, 1))

	wantWrite(t, "the copy's cut", c, 1, full(s, 3), api.OK)
	wantWrite(t, "the copy's cut", c, 1, full(s, 4), api.ErrBlockDead)
	wantState(t, "the first lives", s, 2, false)
	d := c.Copy()
	wantState(t, "a copy of a dead one", d, 2, true)
	wantWrite(t, "a copy of a dead one", d, 0, full(s, 1), api.ErrBlockDead)
	d.Power()
	wantState(t, "the other stays dead", c, 2, true)
	wantBlock(t, "a copy of a dead one", d, 1, append(full(s, 4)[:5], full(s, 3)[5:]...))

	wantWrite(t, "the first's cut", s, 1, full(s, 6), api.ErrBlockDead)
	s.Power()
	torn := append(full(s, 6)[:5], full(s, 1)[5:]...)
	wantBlock(t, "the first's cut", s, 1, torn)
	wantBlock(t, "the first's other block", s, 0, full(s, 2))

	e := s.Copy()
	e.Cut(0, 1)
	wantWrite(t, "no cut of the copy's", s, 0, full(s, 7), api.OK)
}

// P8.3: what a write answered OK for is there till the next write of that
// block, through cuts in other blocks' writes, deaths and power.
func TestForGood(t *testing.T) {
	r := rand.New(rand.NewSource(2))
	for range 50 {
		s := New(8, 32)
		kept := make([][]byte, 8)
		for range 400 {
			i, b := r.Intn(8), randomBytes(r, 32)
			if r.Intn(5) == 0 {
				s.Cut(r.Intn(4), r.Intn(40)-4)
			}
			kept[i] = nil
			if s.Write(i, b) == api.OK {
				kept[i] = b
			}
			if r.Intn(3) == 0 {
				s.Power()
			}
			if s.Dead() {
				continue
			}
			for k, want := range kept {
				if got, e := s.Read(k); want != nil && (e != api.OK || !bytes.Equal(got, want)) {
					t.Fatalf("P8.3: block %d: %x, %v; want %x", k, got, e, want)
				}
			}
		}
	}
}

// anyCall does one call to both, with arguments about the edges.
func anyCall(t *testing.T, r *rand.Rand, s *Store, m *model) {
	t.Helper()
	i := r.Intn(len(m.blocks)+2) - 1
	switch r.Intn(12) {
	case 0:
		n, prefix := r.Intn(5)-1, r.Intn(m.size+9)-4
		s.Cut(n, prefix)
		m.cutAt(n, prefix)
	case 1, 2:
		s.Power()
		m.power()
	case 3:
		at, x := r.Intn(m.size+4)-2, byte(r.Intn(256))
		s.Spoil(i, at, x)
		m.spoil(i, at, x)
	default:
		n := m.size
		if r.Intn(8) == 0 {
			n = r.Intn(2 * m.size)
		}
		b := randomBytes(r, n)
		wantWrite(t, "any calls", s, i, b, m.write(i, b))
	}
}

// P8.1, P8.2: calls in any order, held against the chapter's words; of a copy
// too, and of what it was copied from.
func TestAnyCalls(t *testing.T) {
	r := rand.New(rand.NewSource(3))
	for range 300 {
		count, size := 1+r.Intn(6), 16+r.Intn(20)
		s, m := New(count, size), newModel(count, size)
		c, d := s, m
		for range 200 {
			if r.Intn(20) == 0 {
				c, d = s.Copy(), m.copied()
			}
			anyCall(t, r, s, m)
			wantSame(t, "any calls", s, m)
			if c != s {
				anyCall(t, r, c, d)
				wantSame(t, "any calls of a copy", c, d)
			}
		}
	}
}

// P8.1: one store's blocks, cut and power are no other's.
func TestStoresApart(t *testing.T) {
	a, b := New(2, 16), New(2, 16)
	a.Cut(0, 16)
	wantWrite(t, "other", b, 0, full(b, 2), api.OK)
	wantWrite(t, "one", a, 0, full(a, 1), api.ErrBlockDead)
	wantState(t, "other", b, 1, false)
	wantBlock(t, "other", b, 0, full(b, 2))
	b.Power()
	wantState(t, "one", a, 0, true)
}

// What holds everywhere: what is written isn't changed, the room behind it
// neither, and isn't kept; what was read is the caller's alone.
func TestNewMemory(t *testing.T) {
	s := New(2, 16)
	room := bytes.Repeat([]byte{0xEE}, 40)
	in := room[:copy(room, full(s, 3))]
	before := slices.Clone(room)
	wantWrite(t, "whole", s, 0, in, api.OK)
	s.Cut(0, 5)
	wantWrite(t, "torn", s, 1, in, api.ErrBlockDead)
	s.Power()
	s.Spoil(0, 0, 0)
	if !bytes.Equal(room, before) {
		t.Error("P8.1: what was written is changed")
	}
	for i := range room {
		room[i] = 0x55
	}
	wantBlock(t, "what was written is kept", s, 0, full(s, 3))
	wantBlock(t, "what was written is kept", s, 1, append(full(s, 3)[:5], make([]byte, 11)...))

	first, _ := s.Read(0)
	again, _ := s.Read(0)
	for i := range first[:cap(first)] {
		first[:cap(first)][i] = 0x77
	}
	if !bytes.Equal(again, full(s, 3)) {
		t.Error("P8.1: two reads share memory")
	}
	wantBlock(t, "what was read is the caller's", s, 0, full(s, 3))
	wantBlock(t, "what was read is the caller's", s, 1, append(full(s, 3)[:5], make([]byte, 11)...))
	wantWrite(t, "behind a read", s, 0, full(s, 8), api.OK)
	s.Spoil(0, 2, 0xFF)
	if !bytes.Equal(again, full(s, 3)) {
		t.Error("P8.1: what was read is changed by what comes behind it")
	}
	if !bytes.Equal(room, bytes.Repeat([]byte{0x55}, 40)) {
		t.Error("P8.1: what was written is changed later")
	}
}
