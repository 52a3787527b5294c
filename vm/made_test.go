package vm_test

import (
	"math"
	"math/rand"
	"slices"
	"testing"

	"rung/api"
	"rung/vm"
)

// Where the cells of made-up code lie: one of each scalar kind, two arrays, and
// one of each block.
const (
	ints, firstInt   = 11, -2
	bytes, firstByte = 16, 5
	firstBlock       = 19
)

func someKinds() []int {
	kinds := slices.Concat(scalars, slices.Repeat([]int{api.KInt}, 5), slices.Repeat([]int{api.KByte}, 3))
	for _, block := range blocks {
		own, _ := blockKinds(block)
		kinds = append(kinds, own...)
	}
	return kinds
}

// callOf tells a call of the n-th block, over its cells.
func callOf(n int) api.Ins {
	at := firstBlock
	for _, block := range blocks[:n] {
		own, _ := blockKinds(block)
		at += len(own)
	}
	return api.Ins{Op: api.OpCall, A: at, Name: blocks[n]}
}

// maker makes code that is right: parts that leave the stack as they found it,
// within loops and choices, over numbers that stay.
type maker struct {
	*rand.Rand
	l     []api.Ins
	kinds []int
	depth int  // numbers that stay below
	bare  bool // without steps in loops
}

func newMaker(seed int64) *maker {
	return &maker{Rand: rand.New(rand.NewSource(seed)), kinds: someKinds()}
}

func pick[T any](m *maker, l ...T) T { return l[m.Intn(len(l))] }

func (m *maker) add(x ...api.Ins) int {
	m.l = append(m.l, x...)
	return len(m.l) - 1
}

// one tells an instruction of one number.
func (m *maker) one() api.Ins {
	kind := pick(m, scalars...)
	switch m.Intn(5) {
	case 0:
		return op(pick(m, api.OpNeg, api.OpAbs), pick(m, api.KSint, api.KInt, api.KDint, api.KTime))
	case 1:
		return op(api.OpNot, kind)
	}
	return ins(api.OpConvert, kind, pick(m, scalars...), 0, "")
}

// two tells an instruction of two numbers.
func (m *maker) two() api.Ins {
	switch m.Intn(6) {
	case 0:
		return ins(api.OpShift, pick(m, api.KByte, api.KWord, api.KDword), 0, 0, pick(m, "SHL", "SHR", "ROL", "ROR"))
	case 1:
		return op(pick(m, api.OpMin, api.OpMax), 0)
	}
	operator := api.ExMul + m.Intn(api.ExOr-api.ExMul+1)
	if operator == api.ExDiv || operator == api.ExMod {
		operator = pick(m, operator, api.ExAdd, api.ExSub) // fewer faults
	}
	return apply(operator, pick(m, scalars...))
}

// index puts an index on, mostly one that there is.
func (m *maker) index(nest int, op int) api.Ins {
	x := pick(m, ins(op, ints, 5, firstInt, ""), ins(op, bytes, 3, firstByte, ""))
	switch m.Intn(12) {
	case 0:
		m.number(max(nest-1, 0))
	case 1:
		m.add(push(x.C - 1 + int64(m.Intn(x.B+2))))
	default:
		m.add(push(x.C + int64(m.Intn(x.B))))
	}
	return x
}

// number puts one number on.
func (m *maker) number(nest int) {
	switch what := m.Intn(12); {
	case nest == 0 && what < 6 || what < 2:
		m.add(ofKind(pick(m, scalars...), pick(m, 0, 1, 2, -1, 7, int64(m.Uint64()), 1<<31, 1<<15, 127)))
	case nest == 0 || what < 4:
		m.add(load(m.Intn(len(m.kinds))))
	case what == 4 && m.depth > 0:
		m.add(op(api.OpPick, m.Intn(m.depth)))
	case what < 6:
		m.number(nest - 1)
		m.add(m.one())
	case what < 9:
		m.number(nest - 1)
		m.above(1, func() { m.number(nest - 1) })
		m.add(m.two())
	case what == 9:
		m.add(m.index(nest, pick(m, api.OpLoadAt, api.OpCheckAt)))
	case what == 10:
		m.number(nest - 1)
		m.add(dup, m.two())
	default:
		m.number(nest - 1)
		m.above(1, func() { m.number(nest - 1) })
		m.above(2, func() { m.number(nest - 1) })
		m.add(op(api.OpSel, 0))
	}
}

// above makes a part with so many numbers more below.
func (m *maker) above(n int, part func()) {
	m.depth += n
	part()
	m.depth -= n
}

// part leaves the stack as it found it.
func (m *maker) part(nest int) {
	if nest == 0 || m.Intn(4) == 0 && !m.bare {
		m.add(step)
	}
	if nest == 0 {
		return
	}
	what := m.Intn(9)
	if m.bare && m.Intn(3) == 0 {
		what = 7
	}
	switch what {
	case 0, 1, 2:
		m.number(nest)
		m.add(pick(m, store(m.Intn(len(m.kinds))), store(m.Intn(len(m.kinds))), drop))
	case 3:
		x := m.index(nest, api.OpStoreAt)
		m.above(1, func() { m.number(nest - 1) })
		m.add(x)
	case 4:
		m.add(callOf(m.Intn(len(blocks))))
	case 5: // a number stays while a part is done
		m.number(nest - 1)
		m.above(1, func() { m.part(nest - 1) })
		m.add(drop)
	case 6: // a choice
		m.number(nest - 1)
		from := m.add(op(pick(m, api.OpZero, api.OpOther), 0))
		m.part(nest - 1)
		out := m.add(op(api.OpJump, 0))
		m.l[from].A = len(m.l)
		m.part(nest - 1)
		m.l[out].A = len(m.l)
	case 7: // a loop
		begin := len(m.l)
		if !m.bare {
			m.add(step)
		}
		m.number(nest - 1)
		out := m.add(op(pick(m, api.OpZero, api.OpOther), 0))
		m.part(nest - 1)
		m.add(op(api.OpJump, begin))
		m.l[out].A = len(m.l)
	default:
		m.part(nest - 1)
		m.part(nest - 1)
	}
}

// make tells code: parts above some numbers, and an end.
func (m *maker) make() api.Code {
	m.l, m.depth = nil, pick(m, 0, 0, 1, 5, 200)
	for range m.depth {
		m.number(0)
	}
	for range 1 + m.Intn(6) {
		m.part(m.Intn(5))
	}
	m.add(end)
	return over(m.kinds, m.l...)
}

// cells tells some, as many as there are or not, wrapped or not.
func (m *maker) cells() []int64 {
	l := make([]int64, pick(m, 0, 3, 30, len(m.kinds), len(m.kinds)+2))
	for i := range l {
		l[i] = pick(m, 0, 0, 1, 2, -1, 7, int64(m.Uint64()), math.MaxInt32, math.MinInt64)
	}
	return l
}

// TestMadeUp runs made-up code over and over, held against the model.
func TestMadeUp(t *testing.T) {
	m := newMaker(21)
	faults := map[int]int{}
	for range 5000 {
		c := m.make()
		v := machine(t, c)
		cells, now := m.cells(), pick(m, 0, math.MaxInt32-5, int64(m.Uint64()))
		for round := range 4 {
			most := pick(m, -1, 0, 1, 5, 20, 300, 300)
			want, fault, steps := modelScan(c, cells, now, most, 1<<22)
			got, f, n := v.Scan(cells, now, most)
			if !slices.Equal(got, want) || f != fault || n != steps {
				t.Fatalf("P21.1: round %d: %v, fault %d, %d steps; wanted %v, fault %d, %d steps; of cells %v, at %d, at most %d: %s",
					round, got, f, n, want, fault, steps, cells, now, most, brief(c))
			}
			faults[fault]++
			cells, now = got, now+pick[int64](m, 1, 3, 10)
		}
	}
	for fault := api.FaultNone; fault <= api.FaultSteps; fault++ {
		if faults[fault] < 100 {
			t.Errorf("only %d scans with fault %d", faults[fault], fault)
		}
	}
}

// TestMadeEndless: code without steps in its loops ends, too.
func TestMadeEndless(t *testing.T) {
	m := newMaker(211)
	m.bare = true
	ended, stopped := 0, 0
	for range 60 {
		c := m.make()
		cells := m.cells()
		got, fault, steps := machine(t, c).Scan(cells, 0, math.MaxInt)
		if want, f, n := modelScan(c, cells, 0, math.MaxInt, 10000); f != api.FaultSteps {
			ended++
			if !slices.Equal(got, want) || fault != f || steps != n {
				t.Fatalf("P21.2: %v, fault %d, %d steps; wanted %v, fault %d, %d steps: %s", got, fault, steps, want, f, n, brief(c))
			}
		} else if fault == api.FaultSteps {
			stopped++
		}
	}
	if ended < 20 || stopped < 8 {
		t.Errorf("%d ended, %d were stopped: too few of one", ended, stopped)
	}
}

// TestMadeWrong changes right code: what New takes runs as the model does.
func TestMadeWrong(t *testing.T) {
	m := newMaker(212)
	right := 0
	for range 2000 {
		c := m.make()
		for range 1 + m.Intn(3) {
			at, other := m.Intn(len(c.L)), m.Intn(len(c.L))
			switch x := &c.L[at]; m.Intn(4) {
			case 0:
				c.L[at], c.L[other] = c.L[other], c.L[at]
			case 1:
				*x = ins(1+m.Intn(api.OpPick), m.Intn(12), m.Intn(20), int64(m.Intn(9)), x.Name)
			case 2:
				x.A, x.B, x.C = pick(m, x.A, m.Intn(40)), pick(m, x.B, m.Intn(20)), pick(m, x.C, int64(m.Uint64()))
			default:
				if x.Op == api.OpJump || x.Op == api.OpZero || x.Op == api.OpOther {
					x.A = other
				}
			}
		}
		v, err := vm.New(c)
		if err != nil {
			continue
		}
		right++
		cells, most := m.cells(), m.Intn(60)
		want, fault, steps := modelScan(c, cells, 5, most, 20000)
		if got, f, n := v.Scan(cells, 5, most); (fault != api.FaultSteps || steps == most) && (!slices.Equal(got, want) || f != fault || n != steps) {
			t.Fatalf("P21.1: %v, fault %d, %d steps; wanted %v, fault %d, %d steps: %s", got, f, n, want, fault, steps, brief(c))
		}
	}
	if right < 300 {
		t.Errorf("only %d of 2000 were right", right)
	}
}
