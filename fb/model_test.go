package fb

import (
	"math"
	"math/rand"
	"slices"
	"strings"
	"testing"
)

// pins: of each block, a letter of its kind ahead of each name: b BOOL, i INT,
// t TIME; outputs stand behind a semicolon.
var pins = map[string]string{
	"R_TRIG": "bCLK;bQ", "F_TRIG": "bCLK;bQ", "SR": "bS1 bR;bQ1", "RS": "bS bR1;bQ1",
	"CTU": "bCU bR iPV;bQ iCV", "CTD": "bCD bLD iPV;bQ iCV", "CTUD": "bCU bCD bR bLD iPV;bQU bQD iCV",
	"TON": "bIN tPT;bQ tET", "TOF": "bIN tPT;bQ tET", "TP": "bIN tPT;bQ tET",
}

// model reads the chapter's words once more, by the names of pins: b are those
// that are BOOLs, n the others.
type model struct {
	b    map[string]bool
	n    map[string]int64
	keep keeps
	now  int64
}

// modulo tells n as a number of that many bits, with a sign.
func modulo(n int64, bits int) int64 {
	size := int64(1) << bits
	n %= size
	switch {
	case n >= size/2:
		return n - size
	case n < -size/2:
		return n + size
	}
	return n
}

func newModel(block string, in []int64, keep keeps, out []int64, now int64) *model {
	m := &model{b: map[string]bool{}, n: map[string]int64{}, now: modulo(now, 32)}
	for i := range keep {
		m.keep[i] = modulo(keep[i], 32)
	}
	left, right, _ := strings.Cut(pins[block], ";")
	m.take(strings.Fields(left), in)
	m.take(strings.Fields(right), out)
	return m
}

func (m *model) take(names []string, numbers []int64) {
	for i, name := range names {
		n := int64(0)
		if i < len(numbers) {
			n = numbers[i]
		}
		switch name[0] {
		case 'b':
			m.b[name[1:]] = n != 0
		case 'i':
			m.n[name[1:]] = modulo(n, 16)
		case 't':
			m.n[name[1:]] = modulo(n, 32)
		}
	}
}

func (m *model) outputs(block string) []int64 {
	var all []int64
	_, right, _ := strings.Cut(pins[block], ";")
	for _, name := range strings.Fields(right) {
		n := m.n[name[1:]]
		if name[0] == 'b' && m.b[name[1:]] {
			n = 1
		}
		all = append(all, n)
	}
	return all
}

// keepBool: a BOOL, kept as 0 or 1.
func (m *model) keepBool(i int, name string) {
	m.keep[i] = 0
	if m.b[name] {
		m.keep[i] = 1
	}
}

func (m *model) step(block string) {
	b, n := m.b, m.n
	kept := m.keep[0] != 0
	switch block {
	case "R_TRIG":
		b["Q"] = b["CLK"] && !kept
		m.keepBool(0, "CLK")
	case "F_TRIG":
		b["Q"] = !b["CLK"] && kept
		m.keepBool(0, "CLK")
	case "SR":
		b["Q1"] = b["S1"] || (b["Q1"] && !b["R"])
	case "RS":
		b["Q1"] = !b["R1"] && (b["S"] || b["Q1"])
	case "CTU":
		if b["R"] {
			n["CV"] = 0
		} else if b["CU"] && !kept && n["CV"] < 32767 {
			n["CV"]++
		}
		m.keepBool(0, "CU")
		b["Q"] = n["CV"] >= n["PV"]
	case "CTD":
		if b["LD"] {
			n["CV"] = n["PV"]
		} else if b["CD"] && !kept && n["CV"] > -32768 {
			n["CV"]--
		}
		m.keepBool(0, "CD")
		b["Q"] = n["CV"] <= 0
	case "CTUD":
		m.upDown()
	default:
		n["PT"] = max(n["PT"], 0)
		map[string]func(bool){"TON": m.on, "TOF": m.off, "TP": m.pulse}[block](kept)
		m.keepBool(0, "IN")
	}
}

func (m *model) upDown() {
	b, n := m.b, m.n
	up, down := b["CU"] && m.keep[0] == 0, b["CD"] && m.keep[1] == 0
	if b["R"] {
		n["CV"] = 0
	} else if b["LD"] {
		n["CV"] = n["PV"]
	} else if up != down {
		if up && n["CV"] < 32767 {
			n["CV"]++
		}
		if down && n["CV"] > -32768 {
			n["CV"]--
		}
	}
	m.keepBool(0, "CU")
	m.keepBool(1, "CD")
	b["QU"] = n["CV"] >= n["PV"]
	b["QD"] = n["CV"] <= 0
}

// lesser: of since keep[1], and PT.
func (m *model) lesser() int64 {
	return min(max(0, modulo(m.now-m.keep[1], 32)), m.n["PT"])
}

func (m *model) on(kept bool) {
	b, n := m.b, m.n
	if b["IN"] && !kept {
		m.keep[1], m.keep[2] = m.now, 0
	}
	if !b["IN"] {
		n["ET"], b["Q"], m.keep[2] = 0, false, 0
	}
	if b["IN"] && m.keep[2] == 1 {
		b["Q"], n["ET"] = true, n["PT"]
	} else if b["IN"] {
		n["ET"] = m.lesser()
		b["Q"] = n["ET"] >= n["PT"]
		m.keepBool(2, "Q")
	}
}

func (m *model) off(kept bool) {
	b, n := m.b, m.n
	if b["IN"] {
		b["Q"], n["ET"], m.keep[2] = true, 0, 0
		return
	}
	if kept {
		m.keep[1], m.keep[2] = m.now, 1
	}
	if m.keep[2] == 0 {
		b["Q"] = false
		return
	}
	n["ET"] = m.lesser()
	b["Q"] = n["ET"] < n["PT"]
	if !b["Q"] {
		m.keep[2] = 0
	}
}

func (m *model) pulse(kept bool) {
	b, n := m.b, m.n
	if m.keep[2] != 1 && b["IN"] && !kept {
		m.keep[1], m.keep[2] = m.now, 1
	}
	if m.keep[2] != 1 {
		b["Q"] = false
	} else {
		n["ET"] = m.lesser()
		b["Q"] = n["ET"] < n["PT"]
		if !b["Q"] {
			m.keep[2] = 2
		}
	}
	if m.keep[2] != 1 && !b["IN"] {
		n["ET"], m.keep[2] = 0, 0
	}
}

// hold holds a step against the model's, and tells what was told.
func hold(t *testing.T, block string, in []int64, keep keeps, out []int64, now int64) ([]int64, keeps) {
	t.Helper()
	m := newModel(block, in, keep, out, now)
	m.step(block)
	got, kept := Step(block, in, keep, out, now)
	if want := m.outputs(block); !slices.Equal(got, want) || kept != m.keep {
		t.Fatalf("P17.1: %s %v, %v, %v at %d: %v, %v; want %v, %v", block, in, keep, out, now, got, kept, want, m.keep)
	}
	return got, kept
}

// P17.1: timers: all of many inputs, presets, keeps, outputs and clocks.
func TestAllTimers(t *testing.T) {
	for _, block := range []string{"TON", "TOF", "TP"} {
		for _, in := range []int64{0, 1, -7} {
			for _, preset := range []int64{-5, 0, 1, 10, greatest, 1 << 31, 1<<32 + 10} {
				for _, was := range []int64{0, 1, -3, 1 << 32} {
					for _, phase := range []int64{0, 1, 2, 3, -1, 1 << 32, 1<<32 + 1} {
						for _, began := range []int64{0, 5, least, greatest, 1<<32 + 5} {
							for _, now := range []int64{0, 4, 5, 6, 14, 15, 16, greatest, least, 1<<31 + 4, 1<<32 + 6} {
								hold(t, block, []int64{in, preset}, keeps{was, began, phase}, []int64{phase & 1, preset - 2}, now)
							}
						}
					}
				}
			}
		}
	}
}

// P17.1: counters: all of many inputs, presets, keeps and counts.
func TestAllCounters(t *testing.T) {
	numbers := []int64{0, 1, 2, -1, 32766, 32767, 32768, -32767, -32768, -32769, 1<<16 + 1, math.MaxInt64}
	for bits := range 64 {
		bit := func(i int) int64 { return int64(bits >> i & 1) }
		for _, preset := range numbers {
			for _, count := range numbers {
				keep := keeps{bit(2) * 3, bit(3) * -1, 7}
				hold(t, "CTU", []int64{bit(0), bit(1), preset}, keep, []int64{bit(4), count}, 0)
				hold(t, "CTD", []int64{bit(0), bit(1), preset}, keep, []int64{bit(4), count}, 0)
				hold(t, "CTUD", []int64{bit(0), bit(1), bit(4), bit(5), preset}, keep, []int64{bit(4), bit(1), count}, 0)
			}
		}
	}
}

// P17.1: what has BOOLs alone: all of them, and what is kept beside.
func TestAllBits(t *testing.T) {
	numbers := []int64{0, 1, -1, 2, 1 << 16, 1 << 32, math.MinInt64}
	for _, block := range []string{"R_TRIG", "F_TRIG", "SR", "RS"} {
		for _, a := range numbers {
			for _, b := range numbers {
				for _, k := range numbers {
					for _, q := range numbers {
						hold(t, block, []int64{a, b}, keeps{k, a, b}, []int64{q}, k)
					}
				}
			}
		}
	}
}

// made tells a number: mostly a small one, else one about the ends of ranges,
// or any.
func made(r *rand.Rand) int64 {
	switch r.Intn(6) {
	case 0:
		ends := []int64{1 << 15, 1 << 16, 1 << 31, 1 << 32, math.MaxInt64}
		n := ends[r.Intn(len(ends))] - int64(r.Intn(3))
		return []int64{n, -n}[r.Intn(2)]
	case 1:
		return int64(r.Uint64())
	}
	return int64(r.Intn(20)) - 4
}

func madeList(r *rand.Rand) []int64 {
	l := make([]int64, r.Intn(7))
	for i := range l {
		l[i] = made(r)
	}
	return l
}

// P17.1: any numbers, any number of them.
func TestMadeUp(t *testing.T) {
	r := rand.New(rand.NewSource(17))
	for range 40000 {
		for _, block := range blocks {
			hold(t, block, madeList(r), keeps{made(r), made(r), made(r)}, madeList(r), made(r))
		}
	}
}

// P17.1, P17.2: long lives, whose inputs come and go, by clocks that go on from
// anywhere, now and then past the wrap-round.
func TestLongLives(t *testing.T) {
	r := rand.New(rand.NewSource(18))
	for range 300 {
		for _, block := range blocks {
			var out []int64
			var keep keeps
			in := make([]int64, 5)
			now := made(r)
			for range 100 {
				for i := range in {
					if r.Intn(3) == 0 {
						in[i] = []int64{0, 1, int64(r.Intn(12))}[r.Intn(3)]
					}
				}
				out, keep = hold(t, block, in, keep, out, now)
				now += int64(r.Intn(5))
				if r.Intn(60) == 0 {
					now += int64(r.Uint32())
				}
			}
		}
	}
}

// FuzzStep: no numbers make a step go wrong.
func FuzzStep(f *testing.F) {
	f.Add("TON", int64(1), int64(10), int64(0), int64(1), int64(5), int64(0), int64(0), int64(0), int64(15))
	f.Fuzz(func(t *testing.T, block string, a, b, c, k0, k1, k2, q, n, now int64) {
		in, keep, out := []int64{a, b, c, q, n}, keeps{k0, k1, k2}, []int64{q, n, a}
		if _, ok := pins[block]; ok {
			hold(t, block, in, keep, out, now)
			return
		}
		if got, kept := Step(block, in, keep, out, now); len(got) != 0 || kept != (keeps{}) {
			t.Fatalf("P17.1: %q: %v, %v", block, got, kept)
		}
	})
}

func BenchmarkStep(b *testing.B) {
	for _, block := range []string{"R_TRIG", "TON", "CTUD"} {
		b.Run(block, func(b *testing.B) {
			in, out, keep := []int64{1, 0, 0, 0, 5}, []int64{0, 0, 0}, keeps{}
			for b.Loop() {
				Step(block, in, keep, out, 5)
			}
		})
	}
}
