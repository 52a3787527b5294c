package image

import (
	"math"
	"math/rand"
	"slices"
	"testing"

	"rung/api"
)

// region is a row of the document, written out by hand: an area, its size,
// whether it is of bits, and whether it is published.
type region struct {
	area int
	size int
	bit  bool
	out  bool
}

var regions = []region{
	{1, 128, true, false}, // %IX
	{2, 128, true, true},  // %QX
	{3, 128, true, true},  // %MX
	{4, 64, false, false}, // %IW
	{5, 64, false, true},  // %QW
	{6, 64, false, true},  // %MW
}

type spot struct{ area, offset int }

// model is the document's image by maps that hold what isn't 0.
type model struct {
	outer, working map[spot]uint16
	scans          uint64
}

func newModel() *model {
	return &model{outer: map[spot]uint16{}, working: map[spot]uint16{}}
}

func regionOf(at spot) (region, bool) {
	for _, r := range regions {
		if r.area == at.area && at.offset >= 0 && at.offset < r.size {
			return r, true
		}
	}
	return region{}, false
}

func lookUp(values map[spot]uint16, at spot) (uint16, api.Errno) {
	if _, ok := regionOf(at); !ok {
		return 0, api.ErrImage
	}
	return values[at], api.OK
}

func store(values map[spot]uint16, at spot, v uint16) api.Errno {
	r, ok := regionOf(at)
	if !ok {
		return api.ErrImage
	}
	if r.bit && v != 0 {
		v = 1
	}
	values[at] = v
	return api.OK
}

func cloned(values map[spot]uint16) map[spot]uint16 {
	c := map[spot]uint16{}
	for at, v := range values {
		c[at] = v
	}
	return c
}

func (m *model) latch() { m.working = cloned(m.outer) }

func (m *model) publish() {
	for _, r := range regions {
		for i := 0; r.out && i < r.size; i++ {
			m.outer[spot{r.area, i}] = m.working[spot{r.area, i}]
		}
	}
	m.scans++
}

func (m *model) copied() *model {
	return &model{outer: cloned(m.outer), working: cloned(m.working), scans: m.scans}
}

func wantGet(t *testing.T, what string, m *Image, at spot, want uint16, wantErr api.Errno) {
	t.Helper()
	if v, e := m.Get(at.area, at.offset); v != want || e != wantErr {
		t.Fatalf("%s: Get(%v): %d, %v; want %d, %v", what, at, v, e, want, wantErr)
	}
}

func wantWork(t *testing.T, what string, m *Image, at spot, want uint16, wantErr api.Errno) {
	t.Helper()
	if v, e := m.Work(at.area, at.offset); v != want || e != wantErr {
		t.Fatalf("%s: Work(%v): %d, %v; want %d, %v", what, at, v, e, want, wantErr)
	}
}

// wantSame holds all that can be asked of an image against the model.
func wantSame(t *testing.T, what string, m *Image, d *model) {
	t.Helper()
	for _, r := range regions {
		all := m.All(r.area)
		if len(all) != r.size {
			t.Fatalf("%s: area %d has %d values; want %d", what, r.area, len(all), r.size)
		}
		for i := range r.size {
			at := spot{r.area, i}
			wantGet(t, what, m, at, d.outer[at], api.OK)
			wantWork(t, what, m, at, d.working[at], api.OK)
			if all[i] != d.outer[at] {
				t.Fatalf("%s: All(%d)[%d]: %d; want %d", what, r.area, i, all[i], d.outer[at])
			}
		}
	}
	if m.Scans() != d.scans {
		t.Fatalf("%s: %d scans; want %d", what, m.Scans(), d.scans)
	}
}

// allSpots is every place that there is.
func allSpots() []spot {
	var l []spot
	for _, r := range regions {
		for i := range r.size {
			l = append(l, spot{r.area, i})
		}
	}
	return l
}

// noSpots are places that there aren't: beside the edges, and far off.
func noSpots() []spot {
	var l []spot
	far := []int{math.MinInt, math.MinInt + 1, -1 << 32, -128, -64, -2, -1, 128, 129, 192, 256, 1 << 16, 1 << 31, 1 << 32, math.MaxInt - 1, math.MaxInt}
	for _, r := range regions {
		for _, i := range append(slices.Clone(far), r.size, r.size+1) {
			l = append(l, spot{r.area, i})
		}
		for i := r.size; i < 300; i++ {
			l = append(l, spot{r.area, i})
		}
	}
	for _, area := range []int{math.MinInt, -1 << 32, -7, -6, -1, api.AreaNone, 7, 8, 255, 256, 257, 1<<32 + 1, math.MaxInt} {
		for _, i := range append(slices.Clone(far), 0, 1, 63, 64, 127) {
			l = append(l, spot{area, i})
		}
	}
	return l
}

// filled is an image, and its model, with values that differ by places and
// buffers, and some scans.
func filled(t *testing.T) (*Image, *model) {
	t.Helper()
	m, d := New(), newModel()
	for range 3 {
		m.Publish()
		d.publish()
	}
	for n, at := range allSpots() {
		outer, working := uint16(n*7+1), uint16(n*5+30000)
		if n%3 == 0 {
			outer = 0
		}
		if n%4 == 0 {
			working = 0
		}
		if m.Put(at.area, at.offset, outer) != store(d.outer, at, outer) || m.Set(at.area, at.offset, working) != store(d.working, at, working) {
			t.Fatalf("P11.1: %v isn't filled", at)
		}
	}
	wantSame(t, "P11.1: filled", m, d)
	return m, d
}

// The areas that the document names are those that the tests go through.
func TestAreas(t *testing.T) {
	if !slices.Equal([]int{api.AreaIX, api.AreaQX, api.AreaMX, api.AreaIW, api.AreaQW, api.AreaMW}, []int{1, 2, 3, 4, 5, 6}) {
		t.Error("the areas have other numbers")
	}
}

// The document's example.
func TestExample(t *testing.T) {
	m := New()
	if m.Put(api.AreaIX, 0, 1) != api.OK {
		t.Error("P11.1: Put %IX0.0")
	}
	m.Latch()
	wantWork(t, "P11.2: latched", m, spot{api.AreaIX, 0}, 1, api.OK)
	if m.Set(api.AreaQX, 0, 1) != api.OK {
		t.Error("P11.1: Set %QX0.0")
	}
	wantGet(t, "P11.3: not published", m, spot{api.AreaQX, 0}, 0, api.OK)
	m.Publish()
	wantGet(t, "P11.3: published", m, spot{api.AreaQX, 0}, 1, api.OK)
}

// P11.1, P11.2: a new image is of zeros, and was never published.
func TestZerosAtFirst(t *testing.T) {
	wantSame(t, "P11.1: a new image", New(), newModel())
}

// P11.1: at each place each buffer has a value of its own, of a bit 0 or 1, of
// a register any, and no other place has changed.
func TestEachPlace(t *testing.T) {
	values := []uint16{2, 0, 0xFF00}
	for _, at := range allSpots() {
		m, d := New(), newModel()
		for _, v := range values {
			if e := m.Put(at.area, at.offset, v); e != store(d.outer, at, v) {
				t.Fatalf("P11.1: Put(%v, %d): %v", at, v, e)
			}
			wantSame(t, "P11.1: Put", m, d)
		}
		m.Put(at.area, at.offset, 1)
		store(d.outer, at, 1)
		for _, v := range values {
			if e := m.Set(at.area, at.offset, v); e != store(d.working, at, v) {
				t.Fatalf("P11.1: Set(%v, %d): %v", at, v, e)
			}
			wantSame(t, "P11.1: Set", m, d)
		}
	}
}

// P11.1: every number, of a bit and of a register, in both buffers.
func TestEachValue(t *testing.T) {
	m := New()
	for _, r := range regions {
		at := spot{r.area, r.size - 1}
		for v := range 1 << 16 {
			want := uint16(v)
			if r.bit && v != 0 {
				want = 1
			}
			if m.Put(at.area, at.offset, uint16(v)) != api.OK || m.Set(at.area, at.offset, ^uint16(v)) != api.OK {
				t.Fatalf("P11.1: Put, Set(%v, %d)", at, v)
			}
			wantGet(t, "P11.1", m, at, want, api.OK)
			want = ^uint16(v)
			if r.bit && v != 1<<16-1 {
				want = 1
			}
			wantWork(t, "P11.1", m, at, want, api.OK)
		}
	}
}

// P11.1: where there is no place the answer is ErrImage and 0, and nothing
// changes.
func TestNoSuchPlace(t *testing.T) {
	m, d := filled(t)
	for _, at := range noSpots() {
		if _, ok := regionOf(at); ok {
			t.Fatalf("%v is a place", at)
		}
		for _, v := range []uint16{0, 1, 0xFFFF} {
			if e := m.Put(at.area, at.offset, v); e != api.ErrImage {
				t.Fatalf("P11.1: Put(%v, %d): %v", at, v, e)
			}
			if e := m.Set(at.area, at.offset, v); e != api.ErrImage {
				t.Fatalf("P11.1: Set(%v, %d): %v", at, v, e)
			}
		}
		wantGet(t, "P11.1: no such place", m, at, 0, api.ErrImage)
		wantWork(t, "P11.1: no such place", m, at, 0, api.ErrImage)
	}
	wantSame(t, "P11.1: no such place", m, d)
}

// P11.2: Latch and Drop take over all areas, inputs and outputs, and change
// nothing outside; nor do they count.
func TestLatchDrop(t *testing.T) {
	for what, call := range map[string]func(*Image){"Latch": (*Image).Latch, "Drop": (*Image).Drop} {
		m, d := filled(t)
		for range 2 {
			call(m)
			d.latch()
			wantSame(t, "P11.2: "+what, m, d)
		}
		for _, at := range allSpots() {
			m.Put(at.area, at.offset, 77)
			store(d.outer, at, 77)
		}
		wantSame(t, "P11.2: Put behind "+what, m, d)
		call(m)
		d.latch()
		wantSame(t, "P11.2: "+what+" again", m, d)
		for _, at := range allSpots() {
			m.Set(at.area, at.offset, 0)
			store(d.working, at, 0)
		}
		wantSame(t, "P11.2: Set behind "+what, m, d)
	}
}

// P11.2: Publish takes over the four areas, whatever was put outside meanwhile;
// inputs stay as they are outside; the working buffer stays whole.
func TestPublish(t *testing.T) {
	m, d := filled(t)
	m.Publish()
	d.publish()
	wantSame(t, "P11.2: Publish", m, d)
	for _, at := range allSpots() {
		m.Set(at.area, at.offset, 5)
		store(d.working, at, 5)
	}
	wantSame(t, "P11.2: Set behind Publish", m, d)
	for _, at := range allSpots() {
		m.Put(at.area, at.offset, 0)
		store(d.outer, at, 0)
	}
	wantSame(t, "P11.2: Put behind Publish", m, d)
	m.Publish()
	d.publish()
	wantSame(t, "P11.2: Publish again", m, d)
	for _, r := range regions {
		want := uint16(0)
		if r.out {
			want = 5
			if r.bit {
				want = 1
			}
		}
		wantGet(t, "P11.2: Publish again", m, spot{r.area, r.size - 1}, want, api.OK)
	}
}

// P11.2: Scans counts Publish, and nothing else.
func TestScans(t *testing.T) {
	m := New()
	for n := range uint64(1000) {
		m.Latch()
		m.Set(api.AreaQW, 0, 1)
		m.Drop()
		m.Put(api.AreaMX, 0, 1)
		m.Put(api.AreaMX, 128, 1)
		m.All(api.AreaMX)
		m.Copy().Publish()
		if m.Scans() != n {
			t.Fatalf("P11.2: %d scans; want %d", m.Scans(), n)
		}
		m.Publish()
	}
	if m.Scans() != 1000 {
		t.Errorf("P11.2: %d scans", m.Scans())
	}
}

// P11.2: All of no area is none; of an area it is the caller's own.
func TestAll(t *testing.T) {
	m, d := filled(t)
	for _, area := range []int{math.MinInt, -1 << 32, -6, -1, api.AreaNone, 7, 8, 9, 128, 256, 257, 1 << 32, math.MaxInt} {
		if l := m.All(area); len(l) != 0 {
			t.Errorf("P11.2: All(%d): %v", area, l)
		}
	}
	for _, r := range regions {
		first, again := m.All(r.area), m.All(r.area)
		kept := slices.Clone(again)
		room := first[:cap(first)]
		for i := range room {
			room[i] = 999
		}
		if !slices.Equal(again, kept) {
			t.Errorf("P11.2: two answers of All(%d) share memory", r.area)
		}
		wantSame(t, "P11.2: what All answers is the caller's", m, d)
		c := m.Copy()
		for i := range r.size {
			c.Put(r.area, i, 4321)
		}
		c.Publish()
		if !slices.Equal(again, kept) {
			t.Errorf("P11.2: what All(%d) answered is changed", r.area)
		}
	}
	l := m.All(api.AreaMW)
	kept := slices.Clone(l)
	for i := range l {
		m.Put(api.AreaMW, i, ^l[i])
	}
	m.Publish()
	m.Latch()
	if !slices.Equal(l, kept) {
		t.Error("P11.2: what All answered is changed by what comes behind it")
	}
}

// P11.2: a copy has both buffers and the scans, and goes its own way from
// there, as the first one does.
func TestCopy(t *testing.T) {
	m, d := filled(t)
	c, e := m.Copy(), d.copied()
	wantSame(t, "P11.2: a copy", c, e)
	wantSame(t, "P11.2: what was copied", m, d)
	for _, at := range allSpots() {
		m.Put(at.area, at.offset, 1)
		m.Set(at.area, at.offset, 0)
		store(d.outer, at, 1)
		store(d.working, at, 0)
	}
	m.Publish()
	d.publish()
	wantSame(t, "P11.2: the first goes on", m, d)
	wantSame(t, "P11.2: the copy stays", c, e)
	c.Publish()
	e.publish()
	c.Latch()
	e.latch()
	c.Publish()
	e.publish()
	wantSame(t, "P11.2: the copy goes on", c, e)
	wantSame(t, "P11.2: the first stays", m, d)
	wantSame(t, "P11.2: a copy of a copy", c.Copy().Copy(), e)
}

// What holds everywhere: one image is nothing to another.
func TestImagesApart(t *testing.T) {
	a, b := New(), New()
	for _, at := range allSpots() {
		a.Put(at.area, at.offset, 1)
		a.Set(at.area, at.offset, 1)
	}
	a.Publish()
	wantSame(t, "P11.1: another image", b, newModel())
	wantSame(t, "P11.1: a new image", New(), newModel())
}

// P11.3: whatever a scan sets, and in whatever order, the outside sees all as
// it was till Publish, and behind it all of what was set.
func TestOutsideSeesWholeScans(t *testing.T) {
	r := rand.New(rand.NewSource(1))
	m := New()
	for scan := range 20 {
		for _, g := range regions {
			for i := range g.size {
				if !g.out {
					m.Put(g.area, i, uint16(r.Intn(1<<16)))
				}
			}
		}
		m.Latch()
		before, after := map[spot]uint16{}, map[spot]uint16{}
		for _, at := range allSpots() {
			before[at], _ = m.Get(at.area, at.offset)
			wantWork(t, "P11.2: latched", m, at, before[at], api.OK)
			after[at] = before[at]
		}
		for k := range 100 {
			at := allSpots()[r.Intn(len(allSpots()))]
			g, _ := regionOf(at)
			v := uint16(r.Intn(1 << 16))
			m.Set(at.area, at.offset, v)
			if g.out {
				store(after, at, v)
			}
			if k%10 == 0 {
				for _, at := range allSpots() {
					wantGet(t, "P11.3: half a scan", m, at, before[at], api.OK)
				}
			}
		}
		want := after
		if scan%4 == 3 {
			m.Drop()
			want = before
		}
		for _, at := range allSpots() {
			wantGet(t, "P11.3: ahead of Publish", m, at, before[at], api.OK)
		}
		m.Publish()
		for _, at := range allSpots() {
			wantGet(t, "P11.3: behind Publish", m, at, want[at], api.OK)
		}
	}
}

// anyPlace is mostly a place, at times one that there isn't.
func anyPlace(r *rand.Rand) spot {
	if r.Intn(6) == 0 {
		return spot{r.Intn(10) - 1, r.Intn(140) - 5}
	}
	g := regions[r.Intn(len(regions))]
	return spot{g.area, r.Intn(g.size)}
}

// anyCall does one call to both.
func anyCall(t *testing.T, r *rand.Rand, m *Image, d *model) {
	t.Helper()
	at, v := anyPlace(r), uint16(r.Intn(1<<16)>>r.Intn(17))
	switch r.Intn(20) {
	case 0:
		m.Latch()
		d.latch()
	case 1:
		m.Publish()
		d.publish()
	case 2:
		m.Drop()
		d.latch()
	case 3, 4:
		want, wantErr := lookUp(d.outer, at)
		wantGet(t, "P11.1: any calls", m, at, want, wantErr)
	case 5, 6:
		want, wantErr := lookUp(d.working, at)
		wantWork(t, "P11.1: any calls", m, at, want, wantErr)
	case 7, 8, 9, 10, 11, 12:
		if e := m.Put(at.area, at.offset, v); e != store(d.outer, at, v) {
			t.Fatalf("P11.1: any calls: Put(%v, %d): %v", at, v, e)
		}
	default:
		if e := m.Set(at.area, at.offset, v); e != store(d.working, at, v) {
			t.Fatalf("P11.1: any calls: Set(%v, %d): %v", at, v, e)
		}
	}
}

// P11.1, P11.2: calls in any order, held against the chapter's words; of a copy
// too, and of what it was copied from.
func TestAnyCalls(t *testing.T) {
	r := rand.New(rand.NewSource(2))
	for range 20 {
		m, d := New(), newModel()
		c, e := m.Copy(), d.copied()
		for n := range 600 {
			if n%100 == 50 {
				c, e = m.Copy(), d.copied()
			}
			anyCall(t, r, m, d)
			anyCall(t, r, c, e)
			if n%5 == 0 {
				wantSame(t, "P11.2: any calls", m, d)
				wantSame(t, "P11.2: any calls of a copy", c, e)
			}
		}
	}
}
