package retain

import (
	"bytes"
	"math"
	"math/rand"
	"slices"
	"sync"
	"testing"

	"rung/api"
	"rung/block"
	"rung/crc"
)

func wantOpen(t *testing.T, what string, s *block.Store, n int) (*Journal, []int64, int) {
	t.Helper()
	j, l, found, e := Open(s, n)
	if e != api.OK || j == nil {
		t.Fatalf("P9.1: %s: Open(%d): %v", what, n, e)
	}
	if found < 0 || found > 2 || found != 1 && len(l) != 0 || found == 1 && len(l) != n {
		t.Fatalf("P9.1: %s: Open(%d): %v, %d", what, n, l, found)
	}
	return j, l, found
}

func wantFound(t *testing.T, what string, s *block.Store, n int, l []int64, found int) *Journal {
	t.Helper()
	j, got, f := wantOpen(t, what, s, n)
	if f != found || !slices.Equal(got, l) {
		t.Fatalf("P9.1: %s: Open(%d): %v, %d; want %v, %d", what, n, got, f, l, found)
	}
	return j
}

func wantLay(t *testing.T, what string, j *Journal, scan uint64, l []int64, want api.Errno) {
	t.Helper()
	if e := j.Lay(scan, l); e != want {
		t.Fatalf("P9.2: %s: Lay(%d, %v): %v; want %v", what, scan, l, e, want)
	}
}

func wantTold(t *testing.T, what string, j *Journal, scan, laid uint64) {
	t.Helper()
	if j.Scan() != scan || j.Laid() != laid {
		t.Fatalf("P9.2: %s: scan %d, %d laid; want %d, %d", what, j.Scan(), j.Laid(), scan, laid)
	}
}

// some tells n numbers that no other k has.
func some(k, n int) []int64 {
	l := make([]int64, n)
	for i := range l {
		l[i] = int64(k)<<40 ^ int64(i)*-0x123456789 ^ int64(k)
	}
	return l
}

// laid tells a store of blocks of size bytes, and a journal that laid some(1, n)
// up to some(lays, n), as of the scans 1, 2 and so on.
func laid(t *testing.T, size, n, lays int) (*block.Store, *Journal) {
	t.Helper()
	s := block.New(4, size)
	j, _, _ := wantOpen(t, "a new store", s, n)
	for k := range lays {
		wantLay(t, "whole", j, uint64(k+1), some(k+1, n), api.OK)
	}
	return s, j
}

// wantOneOf holds what Open finds against the Lays that may be found, newest
// last; none, if that may be, with each found that may be.
func wantOneOf(t *testing.T, what string, s *block.Store, n int, lays []int, none ...int) int {
	t.Helper()
	_, l, found := wantOpen(t, what, s, n)
	if found != 1 && slices.Contains(none, found) {
		return 0
	}
	for _, k := range slices.Backward(lays) {
		if found == 1 && slices.Equal(l, some(k, n)) {
			return k
		}
	}
	t.Fatalf("P9.3, P9.4: %s: %v, %d; want one of the Lays %v, or none with %v", what, l, found, lays, none)
	return 0
}

// P9.3: the chapter's example.
func TestExample(t *testing.T) {
	for cut := range 2 {
		for prefix := range 129 {
			s := block.New(4, 128)
			j := wantFound(t, "a new store", s, 1, nil, 0)
			wantLay(t, "the first", j, 1, []int64{5}, api.OK)
			wantLay(t, "the second", j, 2, []int64{6}, api.OK)
			s.Cut(cut, prefix)
			wantLay(t, "the third", j, 3, []int64{7}, api.ErrBlockDead)
			s.Power()
			if _, l, found := wantOpen(t, "behind the cut", s, 1); found != 1 || l[0] != 6 && l[0] != 7 {
				t.Fatalf("P9.3: %v, %d", l, found)
			}
		}
	}
}

// P9.1: how many numbers there is room for, with power or without.
func TestRoom(t *testing.T) {
	for _, blocks := range []int{1, 2, 3, 4, 5, 9, 64} {
		for size := 16; size <= 4096; size++ {
			if size > 300 && size < 4000 && size%97 != 0 {
				continue
			}
			s := block.New(blocks, size)
			n := Room(s)
			if blocks < 4 || size < 64 {
				if n != 0 {
					t.Errorf("P9.1: Room of %d blocks of %d: %d", blocks, size, n)
				}
				continue
			}
			if n < (size-64)/8 || n > size/8 {
				t.Errorf("P9.1: Room of %d blocks of %d: %d", blocks, size, n)
			}
			s.Cut(0, 0)
			s.Write(0, make([]byte, size))
			if !s.Dead() || Room(s) != n {
				t.Errorf("P9.1: Room of a dead store: %d; want %d", Room(s), n)
			}
		}
	}
}

func wantRefused(t *testing.T, what string, s *block.Store, n int, want api.Errno) {
	t.Helper()
	if j, l, found, e := Open(s, n); e != want || j != nil || len(l) != 0 || found != 0 {
		t.Errorf("P9.1: %s: Open(%d): %v, %v, %d, %v; want %v", what, n, j, l, found, e, want)
	}
}

// P9.1: what Open refuses; a lack of power ahead of all else.
func TestOpenRefused(t *testing.T) {
	kill := func(s *block.Store) {
		s.Cut(0, 0)
		s.Write(0, make([]byte, s.Size()))
	}
	for _, x := range [][2]int{{1, 4096}, {3, 512}, {3, 64}, {4, 63}, {4, 16}, {64, 63}, {3, 63}} {
		s := block.New(x[0], x[1])
		for _, n := range []int{math.MinInt, -1, 0, 1, 2, 1000, math.MaxInt} {
			wantRefused(t, "too small a store", s, n, api.ErrRetainBig)
		}
		kill(s)
		for _, n := range []int{-1, 0, 1, 1000} {
			wantRefused(t, "too small, and dead", s, n, api.ErrBlockDead)
		}
	}
	for _, size := range []int{64, 65, 100, 4096} {
		s := block.New(4, size)
		room := Room(s)
		for _, n := range []int{math.MinInt, -room, -2, -1, room + 1, room + 2, 1 << 40, math.MaxInt} {
			wantRefused(t, "no such number", s, n, api.ErrRetainBig)
		}
		wantFound(t, "all of the room", s, room, nil, 0)
		wantFound(t, "none of it", s, 0, nil, 0)
		kill(s)
		for _, n := range []int{math.MinInt, -1, 0, 1, room, room + 1, math.MaxInt} {
			wantRefused(t, "dead", s, n, api.ErrBlockDead)
		}
		s.Power()
		wantFound(t, "power again", s, room, nil, 0)
	}
}

// P9.1, P9.2: what is laid is found, with its scan, however great or small the
// numbers are; the newer one is the one that was laid later, whatever its scan.
func TestLay(t *testing.T) {
	edges := []int64{0, 1, -1, 255, 256, math.MinInt64, math.MaxInt64, math.MinInt32, math.MaxUint32, -1 << 56, 0x0102030405060708}
	for blocks := 4; blocks < 7; blocks++ {
		s := block.New(blocks, 128)
		j := wantFound(t, "a new store", s, 2, nil, 0)
		wantTold(t, "a new store", j, 0, 0)
		count := uint64(0)
		for _, scan := range []uint64{1, 9, 3, 0, math.MaxUint64, 2, 2, 1 << 63, 0, 1} {
			for i, a := range edges {
				l := []int64{a, edges[(i+int(scan%7))%len(edges)]}
				wantLay(t, "edges", j, scan, l, api.OK)
				count++
				wantTold(t, "behind a Lay", j, scan, count)
				wantTold(t, "opened", wantFound(t, "opened", s.Copy(), 2, l, 1), scan, 0)
			}
		}
	}
}

// P9.2: Lays go on through many Opens, and Laid counts each journal's own.
func TestManyOpens(t *testing.T) {
	s := block.New(4, 96)
	for k := range 600 {
		var last []int64
		found := 0
		if k > 0 {
			last, found = some(3*k, 3), 1
		}
		j := wantFound(t, "opened", s, 3, last, found)
		wantTold(t, "opened", j, uint64(3*k), 0)
		for i := range 3 {
			wantLay(t, "on and on", j, uint64(3*k+i+1), some(3*k+i+1, 3), api.OK)
			wantTold(t, "on and on", j, uint64(3*k+i+1), uint64(i+1))
		}
	}
}

// P9.1, P9.2: as many numbers as there is room for, and none.
func TestAllOfTheRoom(t *testing.T) {
	for _, size := range []int{64, 65, 71, 72, 73, 127, 512, 4095, 4096} {
		s := block.New(5, size)
		for _, n := range []int{Room(s), 0, 1, Room(s) - 1, Room(s)} {
			j, _, _ := wantOpen(t, "room", s, n)
			wantLay(t, "room", j, 1, some(1, n), api.OK)
			wantLay(t, "room", j, 2, some(2, n), api.OK)
			wantTold(t, "room", wantFound(t, "room", s, n, some(2, n), 1), 2, 0)
		}
	}
}

// P9.2: not n numbers: nothing changes, power or not.
func TestLayRefused(t *testing.T) {
	for n := range 4 {
		s, j := laid(t, 96, n, 2)
		before := s.Copy()
		for k := range 40 {
			if k != n {
				wantLay(t, "not n numbers", j, 7, make([]int64, k), api.ErrRetainBig)
			}
		}
		if n > 0 {
			wantLay(t, "nil", j, 7, nil, api.ErrRetainBig)
		}
		wantLay(t, "far too many", j, 7, make([]int64, 1<<16), api.ErrRetainBig)
		wantTold(t, "refused", j, 2, 2)
		wantSameBlocks(t, "refused", s, before)
		wantLay(t, "goes on", j, 3, some(3, n), api.OK)
		s.Cut(0, 0)
		wantLay(t, "dead", j, 4, some(4, n), api.ErrBlockDead)
		wantLay(t, "dead, and not n numbers", j, 4, some(4, n+1), api.ErrRetainBig)
		wantTold(t, "dead", j, 3, 3)
	}
}

func wantSameBlocks(t *testing.T, what string, s, before *block.Store) {
	t.Helper()
	if s.Writes() != before.Writes() || s.Dead() != before.Dead() {
		t.Fatalf("%s: %d writes, dead %v; want %d, %v", what, s.Writes(), s.Dead(), before.Writes(), before.Dead())
	}
	for i := range s.Blocks() {
		a, _ := s.Read(i)
		b, _ := before.Read(i)
		if !bytes.Equal(a, b) {
			t.Fatalf("%s: block %d: %x; want %x", what, i, a, b)
		}
	}
}

// P9.1: Open, Scan, Laid and Room write nothing: no cut is nearer by them.
func TestNothingWritten(t *testing.T) {
	for lays := range 5 {
		for cut := range 3 {
			s, j := laid(t, 80, 2, lays)
			s.Cut(cut, 40)
			j.Lay(9, some(9, 2))
			s.Power()
			s.Spoil(cut, 30, 5)
			s.Cut(0, 0)
			before := s.Copy()
			for n := range Room(s) + 2 {
				if k, _, _, e := Open(s, n); e == api.OK {
					k.Scan()
					k.Laid()
				}
			}
			wantSameBlocks(t, "P9.1: nothing is written", s, before)
		}
	}
}

// P9.2: without power a Lay is refused, nothing is counted and the scan stays;
// with power the same journal goes on, as does a new one.
func TestDead(t *testing.T) {
	for cut := range 2 {
		s, j := laid(t, 88, 4, 3)
		s.Cut(cut, 50)
		wantLay(t, "torn", j, 4, some(4, 4), api.ErrBlockDead)
		for range 3 {
			wantTold(t, "dead", j, 3, 3)
			wantLay(t, "dead", j, 5, some(5, 4), api.ErrBlockDead)
		}
		s.Power()
		at := wantOneOf(t, "power", s, 4, []int{3, 4})
		wantTold(t, "power: the newest whole slot's scan", j, uint64(at), 3)
		wantLay(t, "the same journal", j, 6, some(6, 4), api.OK)
		wantTold(t, "the same journal", j, 6, 4)
		wantTold(t, "opened", wantFound(t, "the same journal", s, 4, some(6, 4), 1), 6, 0)
	}
}

// P9.2: the scan is the newest whole slot's, behind spoilt bytes too; what it was
// told to be stays beside an error.
func TestScanSpoilt(t *testing.T) {
	s, j := laid(t, 88, 4, 3)
	spoil := func(i int) {
		s.Spoil(2*i, 30, 1)
		s.Spoil(2*i+1, 30, 1)
	}
	spoil(0)
	wantTold(t, "the third is spoilt", j, 2, 3)
	s.Cut(0, 0)
	wantLay(t, "cut", j, 4, some(4, 4), api.ErrBlockDead)
	wantTold(t, "dead", j, 2, 3)
	s.Power()
	wantTold(t, "power", j, 2, 3)
	spoil(1)
	wantTold(t, "the second too", j, 0, 3)
	wantLay(t, "goes on", j, 5, some(5, 4), api.OK)
	wantTold(t, "goes on", j, 5, 4)
}

// P9.2: a journal that laid nothing yet tells the scan that it found, in a store
// that died by its first Lay too.
func TestDeadAtFirst(t *testing.T) {
	for lays := range 4 {
		s, _ := laid(t, 88, 4, lays)
		j, _, _ := wantOpen(t, "opened", s, 4)
		s.Cut(0, 50)
		wantLay(t, "torn", j, 9, some(9, 4), api.ErrBlockDead)
		wantTold(t, "dead", j, uint64(lays), 0)
		s.Power()
		wantTold(t, "power", j, uint64(lays), 0)
	}
}

// P9.1: a first Lay that died behind its first block is found; so it isn't
// nothing to a journal of another number.
func TestFirstBlockAlone(t *testing.T) {
	for _, cut := range [][2]int{{0, 80}, {1, 0}, {1, 1}, {1, 40}, {1, 80}} {
		s, j := laid(t, 80, 3, 0)
		s.Cut(cut[0], cut[1])
		wantLay(t, "dead", j, 7, some(1, 3), api.ErrBlockDead)
		s.Power()
		wantTold(t, "of three", wantFound(t, "of three", s, 3, some(1, 3), 1), 7, 0)
		wantTold(t, "of two", wantFound(t, "of two", s, 2, nil, 2), 7, 0)
	}
}

// P9.1, P9.2: slots of other numbers of numbers: not found, but not nothing; the
// newest one that has n is found, beside a newer one that hasn't.
func TestOtherCount(t *testing.T) {
	s, _ := laid(t, 128, 2, 2)
	for n := range Room(s) + 1 {
		if n != 2 {
			wantTold(t, "other counts", wantFound(t, "other counts", s, n, nil, 2), 2, 0)
		}
	}
	three := wantFound(t, "three", s, 3, nil, 2)
	wantLay(t, "two of three", three, 5, some(5, 2), api.ErrRetainBig)
	wantLay(t, "three", three, 5, some(5, 3), api.OK)
	wantTold(t, "three", three, 5, 1)
	wantFound(t, "three", s, 3, some(5, 3), 1)
	two := wantFound(t, "the elder one has two", s, 2, some(2, 2), 1)
	wantFound(t, "four", s, 4, nil, 2)
	wantLay(t, "two again", two, 6, some(6, 2), api.OK)
	wantFound(t, "two again", s, 2, some(6, 2), 1)
	wantLay(t, "two and two", two, 7, some(7, 2), api.OK)
	wantFound(t, "two and two", s, 3, nil, 2)
}

// P9.3: what Open found stays till the Lay is whole, of whatever number the slots
// are: also if it is the elder slot's, or none.
func TestOtherCountCut(t *testing.T) {
	for cut := range 6 {
		for prefix := range 97 {
			s, _ := laid(t, 96, 2, 2)
			three, _, _ := wantOpen(t, "three", s, 3)
			s.Cut(cut, prefix)
			e := three.Lay(3, some(3, 3))
			s.Power()
			wantOneOf(t, "of three none", s, 3, []int{3}, 2)
			if e == api.OK {
				wantFound(t, "three", s, 3, some(3, 3), 1)
			}

			s, _ = laid(t, 96, 2, 2)
			three, _, _ = wantOpen(t, "three", s, 3)
			wantLay(t, "three", three, 3, some(3, 3), api.OK)
			two := wantFound(t, "the elder one", s, 2, some(2, 2), 1)
			s.Cut(cut, prefix)
			e = two.Lay(4, some(4, 2))
			s.Power()
			at := wantOneOf(t, "the elder one stays", s, 2, []int{2, 4})
			if e == api.OK && at != 4 {
				t.Fatalf("P9.2: laid, but not found: Lay %d", at)
			}
			two, _, _ = wantOpen(t, "goes on", s, 2)
			wantLay(t, "goes on", two, 5, some(5, 2), api.OK)
			wantFound(t, "goes on", s, 2, some(5, 2), 1)
		}
	}
}

// elder tells a store whose newer slot has three numbers, and the journal of two
// that found the elder one.
func elder(t *testing.T) (*block.Store, *Journal) {
	t.Helper()
	s, _ := laid(t, 96, 2, 2)
	three, _, _ := wantOpen(t, "three", s, 3)
	wantLay(t, "three", three, 3, some(3, 3), api.OK)
	return s, wantFound(t, "the elder one", s, 2, some(2, 2), 1)
}

// P9.4: what Open found in the elder slot outlasts a cut and a spoilt byte.
func TestOtherCountSpoilt(t *testing.T) {
	for cut := range 2 {
		for _, prefix := range []int{0, 1, 2, 50, 94, 95, 96} {
			s, two := elder(t)
			s.Cut(cut, prefix)
			wantLay(t, "cut", two, 4, some(4, 2), api.ErrBlockDead)
			s.Power()
			for i := range 4 {
				for at := range 96 {
					s.Spoil(i, at, 0x41)
					wantOneOf(t, "cut and spoilt", s, 2, []int{2, 4})
					s.Spoil(i, at, 0x41)
				}
			}
		}
	}
}

// P9.1: once two Lays of two numbers are done, none of three is found, wherever
// the first of them was cut.
func TestOtherCountGone(t *testing.T) {
	for cut := range 2 {
		for prefix := range 97 {
			s, two := elder(t)
			s.Cut(cut, prefix)
			wantLay(t, "cut", two, 4, some(4, 2), api.ErrBlockDead)
			s.Power()
			wantLay(t, "the first", two, 5, some(5, 2), api.OK)
			wantLay(t, "the second", two, 6, some(6, 2), api.OK)
			wantFound(t, "of two", s, 2, some(6, 2), 1)
			wantFound(t, "of three", s, 3, nil, 2)
		}
	}
	s, two := elder(t)
	s.Cut(1, 0)
	wantLay(t, "cut between", two, 4, some(4, 2), api.ErrBlockDead)
	s.Power()
	wantLay(t, "done", two, 5, some(5, 2), api.OK)
	wantFound(t, "of three, both newer ones are of two", s, 3, nil, 2)
}

// P9.3: a cut in each write of a Lay, behind any number of Lays, with each
// prefix: that Lay's numbers, or those ahead of it, found as they were; the same
// journal goes on, or a new one.
func TestCuts(t *testing.T) {
	for _, size := range []int{64, 75, 104} {
		for lays := range 5 {
			for cut := range 5 {
				for prefix := -1; prefix <= size+1; prefix++ {
					s, j := laid(t, size, 3, lays)
					s.Cut(cut, prefix)
					e := j.Lay(uint64(lays+1), some(lays+1, 3))
					if e != api.OK && e != api.ErrBlockDead || (e == api.OK) == s.Dead() {
						t.Fatalf("P9.2: %v, dead %v", e, s.Dead())
					}
					s.Power()
					wantAhead(t, s, lays, e)
					if prefix%2 == 0 {
						j, _, _ = wantOpen(t, "goes on", s, 3)
					}
					wantLay(t, "goes on", j, 50, some(50, 3), api.OK)
					wantLay(t, "goes on", j, 51, some(51, 3), api.OK)
					wantFound(t, "goes on", s, 3, some(51, 3), 1)
				}
			}
		}
	}
}

// wantAhead wants what may be found behind a Lay that answered e, with as many
// Lays ahead of it.
func wantAhead(t *testing.T, s *block.Store, lays int, e api.Errno) {
	t.Helper()
	switch {
	case e == api.OK:
		wantFound(t, "the cut is behind it", s, 3, some(lays+1, 3), 1)
	case lays == 0:
		wantOneOf(t, "behind a cut in the first", s, 3, []int{1}, 0)
	default:
		wantOneOf(t, "behind a cut", s, 3, []int{lays, lays + 1})
	}
}

// P9.3: cut after cut, by one journal or by new ones: never back behind what was
// found.
func TestCutAgain(t *testing.T) {
	r := rand.New(rand.NewSource(1))
	for round := range 400 {
		lays := r.Intn(4)
		s, j := laid(t, 72, 3, lays)
		at := lays
		for k := lays + 1; k < lays+40; k++ {
			if round%2 == 0 {
				j, _, _ = wantOpen(t, "opened", s, 3)
			}
			s.Cut(r.Intn(4), r.Intn(76)-2)
			e := j.Lay(uint64(k), some(k, 3))
			if got := j.Scan(); e != api.OK && got != uint64(at) {
				t.Fatalf("P9.2: dead: scan %d; want %d, as ahead of the Lay", got, at)
			}
			s.Power()
			switch {
			case e == api.OK:
				wantFound(t, "not cut", s, 3, some(k, 3), 1)
				at = k
			case at == 0:
				at = wantOneOf(t, "cut again", s, 3, []int{k}, 0)
			default:
				at = wantOneOf(t, "cut again", s, 3, []int{at, k})
			}
			if k%2 == 0 && j.Scan() != uint64(at) {
				t.Fatalf("P9.2: scan %d; want %d", j.Scan(), at)
			}
		}
	}
}

// agree tells a number that, laid as number i of l, lets the record's bytes up
// to and with it, followed by the old record's, have the old record's sum.
func agree(old, l record, i, size int) int64 {
	behind := pack(old, size)
	sumOf := func(x int64) uint32 {
		n := slices.Clone(l.numbers)
		n[i] = x
		b := pack(record{l.turn, l.scan, n}, size)
		copy(b[numbersAt+(i+1)*word:], behind[numbersAt+(i+1)*word:])
		return crc.Sum32(b[edge:sumAt(size)])
	}
	// Sums are linear: the bits of x are chosen so that together they turn those
	// bits that are unlike.
	zero := sumOf(0)
	var rows [32]struct {
		sum uint32
		x   int64
	}
	take := func(sum uint32, x int64) (uint32, int64) {
		for bit := 31; bit >= 0; bit-- {
			if sum>>bit&1 == 1 && rows[bit].sum != 0 {
				sum, x = sum^rows[bit].sum, x^rows[bit].x
			}
		}
		return sum, x
	}
	for bit := range 40 {
		sum, x := take(sumOf(1<<bit)^zero, 1<<bit)
		if sum != 0 {
			top := 31
			for sum>>top&1 == 0 {
				top--
			}
			rows[top].sum, rows[top].x = sum, x
		}
	}
	_, x := take(zero^uint32(get(behind, sumAt(size))), 0)
	return x
}

// tornAgree tells a store of two Lays and a third that tears behind its number i
// such that the torn block has a sum that agrees; with twice, it is laid over one
// that tore ahead of its last byte.
func tornAgree(t *testing.T, i int, twice bool) (*block.Store, []int64) {
	t.Helper()
	const size = 96
	s, j := laid(t, size, 4, 2)
	old := record{turn: 1, scan: 1, numbers: some(1, 4)}
	if twice {
		old = record{turn: 3, scan: 9, numbers: some(9, 4)}
		s.Cut(0, size-1)
		wantLay(t, "torn", j, old.scan, old.numbers, api.ErrBlockDead)
		s.Power()
	}
	l := record{turn: 3, scan: 3, numbers: some(3, 4)}
	l.numbers[i] = agree(old, l, i, size)
	s.Cut(0, numbersAt+(i+1)*word)
	wantLay(t, "torn", j, l.scan, l.numbers, api.ErrBlockDead)
	s.Power()
	b, _ := s.Read(0)
	if get(b, sumAt(size)) != sum(b) || get(b, scanAt) != l.scan || get(b, numbersAt+3*word) != uint64(old.numbers[3]) {
		t.Fatalf("the sums don't agree: this test is none: %x", b)
	}
	return s, l.numbers
}

// P9.3: numbers with which the sum of a torn block agrees.
func TestSumsAgree(t *testing.T) {
	for i := range 3 {
		for _, twice := range []bool{false, true} {
			s, l := tornAgree(t, i, twice)
			j := wantFound(t, "sums agree", s, 4, some(2, 4), 1)
			wantLay(t, "goes on", j, 3, l, api.OK)
			wantFound(t, "goes on", s, 4, l, 1)
		}
	}
}

// P9.4: numbers with which the sum of a torn block agrees, and any one byte that
// is spoilt.
func TestSumsAgreeSpoilt(t *testing.T) {
	for i := range 3 {
		for _, twice := range []bool{false, true} {
			torn, _ := tornAgree(t, i, twice)
			for at := range 96 {
				for x := 1; x < 256; x++ {
					torn.Spoil(0, at, byte(x))
					wantFound(t, "sums agree, spoilt", torn, 4, some(2, 4), 1)
					torn.Spoil(0, at, byte(x))
				}
			}
		}
	}
}

// P9.3: a stamp is none of the two bytes that it is to be told from, nor 0, which
// is no stamp.
func TestStamp(t *testing.T) {
	r := record{turn: 1, scan: 2, numbers: []int64{3}}
	for tail := range 1 << 16 {
		old := make([]byte, 64)
		old[62], old[63] = byte(tail>>8), byte(tail)
		b := make([]byte, 64)
		stamp(b, old)
		s := ends(b)
		if s[0] == 0 || s[0] == old[62] || s[0] == old[63] || s != [4]byte{s[0], s[0], s[0], s[0]} {
			t.Fatalf("P9.3: over %x: %x", tail, s)
		}
	}
	b := pack(r, 64)
	if got := unpack(b); got.turn != 0 {
		t.Errorf("P9.3: whole without a stamp: %v", got)
	}
	stamp(b, make([]byte, 64))
	if got := unpack(b); got.turn != 1 || got.scan != 2 || !slices.Equal(got.numbers, r.numbers) {
		t.Errorf("P9.1: %v; want %v", got, r)
	}
}

// lastTwo tells the Lays that may be found where something is spoilt.
func lastTwo(lays int) []int { return []int{max(1, lays-1), lays} }

// P9.4: any bits of any one byte.
func TestSpoiltByte(t *testing.T) {
	const size = 72
	for lays := 1; lays < 5; lays++ {
		s, _ := laid(t, size, 4, lays)
		for i := range 4 {
			for at := range size {
				for x := 1; x < 256; x++ {
					if x > 8 && x&(x-1) != 0 && x%31 != 0 {
						continue
					}
					s.Spoil(i, at, byte(x))
					if lays == 1 {
						wantOneOf(t, "spoilt", s, 4, lastTwo(lays), 2)
					} else {
						wantOneOf(t, "spoilt", s, 4, lastTwo(lays))
					}
					s.Spoil(i, at, byte(x))
				}
			}
		}
	}
}

// P9.4: a byte that is spoilt, anywhere, at any time, with Lays behind it.
func TestSpoiltBetween(t *testing.T) {
	r := rand.New(rand.NewSource(2))
	for lays := 1; lays < 4; lays++ {
		for i := range 4 {
			for at := range 72 {
				for more := range 4 {
					s, j := laid(t, 72, 4, lays)
					s.Spoil(i, at, byte(1+r.Intn(255)))
					if r.Intn(2) == 0 {
						j, _, _ = wantOpen(t, "spoilt", s, 4)
					}
					for k := range more {
						wantLay(t, "behind it", j, 7, some(lays+k+1, 4), api.OK)
					}
					if lays+more == 1 {
						wantOneOf(t, "spoilt between", s, 4, []int{1}, 2)
					} else {
						wantOneOf(t, "spoilt between", s, 4, lastTwo(lays+more))
					}
				}
			}
		}
	}
}

// spoilEach spoils one byte of each block, or of some.
func spoilEach(r *rand.Rand, s *block.Store, some bool) {
	for i := range s.Blocks() {
		if !some || r.Intn(3) > 0 {
			s.Spoil(i, r.Intn(s.Size()), byte(1+r.Intn(255)))
		}
	}
}

// P9.4: one byte of each block, or of some blocks, spoilt: one of the last two
// Lays, or none with 2, and never others.
func TestSpoiltBlocks(t *testing.T) {
	r := rand.New(rand.NewSource(3))
	for lays := 1; lays < 6; lays++ {
		whole, _ := laid(t, 80, 4, lays)
		for at := range 80 {
			for range 40 {
				s := whole.Copy()
				x := byte(1 + r.Intn(255))
				for i := range 4 {
					s.Spoil(i, at, x)
				}
				wantOneOf(t, "the same byte of each block", s, 4, lastTwo(lays), 2)
				s = whole.Copy()
				spoilEach(r, s, at%2 == 0)
				wantOneOf(t, "one byte of each block", s, 4, lastTwo(lays), 2)
			}
		}
		wantMended(t, r, whole, lays)
	}
}

// wantMended wants Lays to go on behind spoilt blocks, and to be found.
func wantMended(t *testing.T, r *rand.Rand, whole *block.Store, lays int) {
	t.Helper()
	for range 200 {
		s := whole.Copy()
		spoilEach(r, s, false)
		j, _, _ := wantOpen(t, "spoilt", s, 4)
		for k := range 3 {
			wantLay(t, "behind spoilt blocks", j, 9, some(lays+k+1, 4), api.OK)
			wantFound(t, "behind spoilt blocks", s, 4, some(lays+k+1, 4), 1)
		}
	}
}

// P9.1, P9.3, P9.4: where nothing was laid, nothing is found, with 0: whatever
// bytes are spoilt, one a block, and wherever a first Lay tore.
func TestNothingLaid(t *testing.T) {
	r := rand.New(rand.NewSource(4))
	for i := range 4 {
		for at := range 64 {
			for x := 1; x < 256; x++ {
				s := block.New(4, 64)
				s.Spoil(i, at, byte(x))
				wantTold(t, "a spoilt byte", wantFound(t, "a spoilt byte", s, 3, nil, 0), 0, 0)
			}
		}
	}
	for at := range 64 {
		for _, x := range []byte{1, 2, 3, 255} {
			s := block.New(4, 64)
			for i := range 4 {
				s.Spoil(i, at, x)
			}
			wantFound(t, "a spoilt byte in each", s, 3, nil, 0)
			j := wantFound(t, "a spoilt byte in each", s, 0, nil, 0)
			wantLay(t, "behind it", j, 1, nil, api.OK)
			wantFound(t, "behind it", s, 0, nil, 1)
		}
	}
	for prefix := range 64 {
		for range 100 {
			s, j := laid(t, 64, 3, 0)
			for range 1 + r.Intn(3) {
				s.Cut(0, min(prefix, r.Intn(64)))
				wantLay(t, "torn", j, 1, some(1, 3), api.ErrBlockDead)
				s.Power()
			}
			wantFound(t, "torn", s, 3, nil, 0)
			wantFound(t, "torn, other count", s, 1, nil, 0)
			spoilEach(r, s, true)
			wantOneOf(t, "torn and spoilt", s, 3, []int{1}, 0)
		}
	}
}

// P9.1: what was laid and is broken is told by 2, by each journal, till it laid.
func TestBroken(t *testing.T) {
	for lays := 1; lays < 4; lays++ {
		for cut := range 2 {
			for prefix := range 80 {
				s, _ := laid(t, 80, 4, lays)
				for i := range 4 {
					s.Spoil(i, 30, 1)
				}
				j := wantFound(t, "broken", s, 4, nil, 2)
				wantTold(t, "broken", j, 0, 0)
				s.Cut(cut, prefix)
				wantLay(t, "broken, cut", j, 9, some(9, 4), api.ErrBlockDead)
				s.Power()
				wantOneOf(t, "broken, cut", s, 4, []int{9}, 2)
			}
		}
	}
}

// P9.3, P9.4: a cut in each write, with each prefix, and any one byte spoilt
// behind it: the numbers of that Lay, or of one of the two ahead of it.
func TestCutAndSpoilt(t *testing.T) {
	r := rand.New(rand.NewSource(5))
	for lays := 1; lays < 4; lays++ {
		for cut := range 2 {
			for prefix := range 65 {
				s, j := laid(t, 64, 3, lays)
				s.Cut(cut, prefix)
				wantLay(t, "torn", j, 9, some(lays+1, 3), api.ErrBlockDead)
				s.Power()
				for i := range 4 {
					for at := range 64 {
						x := byte(1 + r.Intn(255))
						s.Spoil(i, at, x)
						wantOneOf(t, "cut and spoilt", s, 3, []int{max(1, lays-1), lays, lays + 1})
						s.Spoil(i, at, x)
					}
				}
			}
		}
	}
}

// life is a store and what may be found in it.
type life struct {
	s     *block.Store
	j     *Journal
	n     int
	lays  int   // how many were begun
	found []int // those that were found, one behind another
	ok    int   // how many of these there were, when a Lay last answered OK
}

func (f *life) last() int {
	if len(f.found) == 0 {
		return 0
	}
	return f.found[len(f.found)-1]
}

// step lays, with a cut or without one, and holds what is found against it.
func (f *life) step(t *testing.T, r *rand.Rand) {
	t.Helper()
	if r.Intn(3) == 0 {
		f.j, _, _ = wantOpen(t, "a life", f.s, f.n)
	}
	if r.Intn(2) == 0 {
		f.s.Cut(r.Intn(5), r.Intn(f.s.Size()+5)-2)
		if r.Intn(4) == 0 {
			f.s.Cut(r.Intn(2), []int{0, 1, 2, f.s.Size() - 2, f.s.Size() - 1, f.s.Size()}[r.Intn(6)])
		}
	}
	f.lays++
	e := f.j.Lay(uint64(f.lays), some(f.lays, f.n))
	f.s.Power()
	may, none := []int{f.lays}, []int{}
	if e != api.OK {
		may = append(may, f.last())
		if len(f.found) == 0 {
			none = []int{0}
		}
	}
	at := wantOneOf(t, "a life", f.s, f.n, may, none...)
	if at != f.last() {
		f.found = append(f.found, at)
	}
	if e == api.OK {
		f.ok = len(f.found)
	}
}

// wantSpoilt spoils copies of the store: one byte of it, or one of some blocks.
func (f *life) wantSpoilt(t *testing.T, r *rand.Rand) {
	t.Helper()
	s := f.s.Copy()
	s.Spoil(r.Intn(4), r.Intn(s.Size()), byte(1+r.Intn(255)))
	may, none := f.found[max(0, f.ok-2):], []int{}
	if f.ok == 0 {
		none = []int{0, 2}
	}
	if len(may) == 1 {
		none = append(none, 2)
	}
	wantOneOf(t, "a life, a byte spoilt", s, f.n, may, none...)
	s = f.s.Copy()
	spoilEach(r, s, true)
	wantOneOf(t, "a life, some blocks spoilt", s, f.n, may, append(none, 2)...)
}

// P9.1 to P9.4: Lays, cuts and Opens in any order, bytes spoilt behind them.
func TestAnyCalls(t *testing.T) {
	r := rand.New(rand.NewSource(6))
	for range 1500 {
		f := &life{s: block.New(4+r.Intn(2), 64+r.Intn(30)), n: r.Intn(4)}
		if f.n == 0 {
			f.n = 1
		}
		f.j, _, _ = wantOpen(t, "a life", f.s, f.n)
		for range 25 {
			f.step(t, r)
			for range 4 {
				f.wantSpoilt(t, r)
			}
		}
	}
}

// P9.4: a cut between the two blocks of a slot leaves what was laid there ahead of
// it: once a newer Lay is done, that isn't found any more.
func TestNoOldCopy(t *testing.T) {
	for _, opened := range []bool{false, true} {
		s, j := laid(t, 80, 4, 2)
		s.Cut(1, 0)
		wantLay(t, "cut between", j, 3, some(3, 4), api.ErrBlockDead)
		s.Power()
		if opened {
			j, _, _ = wantOpen(t, "opened", s, 4)
		}
		wantFound(t, "the third is whole", s, 4, some(3, 4), 1)
		wantLay(t, "the fourth", j, 4, some(4, 4), api.OK)
		for mask := range 16 {
			c := s.Copy()
			for i := range 4 {
				if mask>>i&1 == 1 {
					c.Spoil(i, 40, 1)
				}
			}
			wantOneOf(t, "some blocks spoilt", c, 4, []int{3, 4}, 2)
		}
	}
}

// What holds everywhere: blocks of any bytes are taken, whatever they say.
func TestAnyBytes(t *testing.T) {
	r := rand.New(rand.NewSource(7))
	for round := range 3000 {
		s := block.New(4, 64+r.Intn(40))
		for i := range 4 {
			b := make([]byte, s.Size())
			r.Read(b)
			stamp(b, make([]byte, s.Size()))
			if round%2 == 0 {
				put(b, countAt, []uint64{0, uint64(Room(s)), uint64(Room(s)) + 1, 1 << 32, 1 << 61, 1 << 63, math.MaxUint64}[r.Intn(7)])
				put(b, sumAt(s.Size()), sum(b))
			}
			s.Write(i, b)
		}
		for n := -1; n <= Room(s)+1; n++ {
			j, l, found, e := Open(s, n)
			if (e == api.OK) != (n >= 0 && n <= Room(s)) || e != api.OK && j != nil || found == 0 && e == api.OK || found == 1 && len(l) != n {
				t.Fatalf("P9.1: any bytes: Open(%d): %v, %d, %v", n, l, found, e)
			}
			if e == api.OK {
				j.Scan()
				wantLay(t, "any bytes", j, 1, make([]int64, n), api.OK)
			}
		}
	}
}

// What holds everywhere: what is laid is neither changed nor kept, what was found
// is the caller's.
func TestMemory(t *testing.T) {
	s, j := laid(t, 96, 3, 1)
	room := []int64{1, 2, 3, 4, 5, 6}
	wantLay(t, "a piece", j, 2, room[:3], api.OK)
	if !slices.Equal(room, []int64{1, 2, 3, 4, 5, 6}) {
		t.Errorf("P9.2: what was laid is changed: %v", room)
	}
	for i := range room {
		room[i] = 77
	}
	wantFound(t, "what was laid is kept", s, 3, []int64{1, 2, 3}, 1)
	_, first, _ := wantOpen(t, "first", s, 3)
	_, again, _ := wantOpen(t, "again", s, 3)
	for i := range first[:cap(first)] {
		first[:cap(first)][i] = 99
	}
	if !slices.Equal(again, []int64{1, 2, 3}) {
		t.Error("P9.1: two answers share memory")
	}
	wantFound(t, "what was found is kept", s, 3, []int64{1, 2, 3}, 1)
	wantLay(t, "later", j, 3, []int64{7, 8, 9}, api.OK)
	if !slices.Equal(again, []int64{1, 2, 3}) {
		t.Error("P9.1: what was found is changed by a Lay")
	}
}

// What holds everywhere: one journal's store is no other's.
func TestApart(t *testing.T) {
	a, j := laid(t, 96, 3, 2)
	b, k := laid(t, 96, 3, 3)
	a.Cut(0, 9)
	wantLay(t, "one", k, 4, some(4, 3), api.OK)
	wantLay(t, "other", j, 3, some(3, 3), api.ErrBlockDead)
	wantTold(t, "one", k, 4, 4)
	wantTold(t, "other", j, 2, 2)
	wantFound(t, "one", b, 3, some(4, 3), 1)
	a.Power()
	wantFound(t, "other", a, 3, some(2, 3), 1)
}

// P9.2: Laid may be asked while Lays go on; it never goes back.
func TestLaidMeanwhile(t *testing.T) {
	_, j := laid(t, 96, 3, 0)
	done := make(chan bool)
	var all sync.WaitGroup
	for range 4 {
		all.Go(func() {
			last := uint64(0)
			for {
				n := j.Laid()
				if n < last {
					t.Errorf("P9.2: %d laid behind %d", n, last)
				}
				last = n
				select {
				case <-done:
					return
				default:
				}
			}
		})
	}
	for k := range 300 {
		if e := j.Lay(uint64(k), some(k, 3)); e != api.OK {
			t.Errorf("P9.2: %v", e)
		}
	}
	close(done)
	all.Wait()
	if n := j.Laid(); n != 300 {
		t.Errorf("P9.2: %d laid", n)
	}
}
