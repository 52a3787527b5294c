package code_test

import (
	"math/rand"
	"slices"
	"testing"

	"rung/api"
	"rung/code"
)

// model tells what the chapter's words about ways come to, found by rounds over
// all states, till none is new: the number of the first instruction that is
// wrong (-1: none), and the depths.
func model(l []api.Ins) (int, []int) {
	at := make([][api.MaxStack + 1]bool, len(l))
	at[0][0] = true
	bad := make([]bool, len(l))
	for changed := true; changed; {
		changed = false
		for i, x := range l {
			for depth, there := range at[i] {
				if !there {
					continue
				}
				after, ok := modelEffect(x, depth)
				if !ok {
					bad[i] = true
					continue
				}
				for _, next := range modelNext(x, i) {
					if next == len(l) {
						bad[i] = true
					} else if !at[next][after] {
						at[next][after], changed = true, true
					}
				}
			}
		}
	}
	return judge(at, bad)
}

func modelEffect(x api.Ins, depth int) (int, bool) {
	takes, puts := effectOf(x)
	return depth - takes + puts, depth >= takes && depth-takes+puts <= api.MaxStack
}

func modelNext(x api.Ins, i int) []int {
	switch x.Op {
	case api.OpEnd:
		return nil
	case api.OpJump:
		return []int{x.A}
	case api.OpZero, api.OpOther:
		return []int{x.A, i + 1}
	}
	return []int{i + 1}
}

func judge(at [][api.MaxStack + 1]bool, bad []bool) (int, []int) {
	depths := make([]int, len(at))
	for i := range at {
		depths[i] = -1
		for depth, there := range at[i] {
			if there && depths[i] >= 0 {
				bad[i] = true
			}
			if there {
				depths[i] = depth
			}
		}
	}
	return slices.Index(bad, true), depths
}

func wantModel(t *testing.T, c api.Code) (right bool) {
	t.Helper()
	at, depths := model(c.L)
	if at >= 0 {
		wantWrong(t, "P20.1: by the model", c, at)
		return false
	}
	wantRight(t, "P20.1: by the model", c)
	if got, _ := code.Depths(c); !slices.Equal(got, depths) {
		t.Errorf("P20.1: depths %v, wanted %v: %s", got, depths, brief(c))
	}
	return true
}

// maker makes code that is right: parts that leave the stack as they found it,
// within loops and choices, over numbers that stay.
type maker struct {
	r     *rand.Rand
	l     []api.Ins
	depth int // numbers that stay below
}

func (m *maker) add(x ...api.Ins) int {
	m.l = append(m.l, x...)
	return len(m.l) - 1
}

// number puts one number on.
func (m *maker) number(nest int) {
	pick := func(l ...api.Ins) api.Ins { return l[m.r.Intn(len(l))] }
	switch kind := m.r.Intn(8); {
	case nest == 0 || kind < 3:
		m.add(pick(push, op(api.OpLoad, m.r.Intn(len(someKinds)))))
	case kind == 3 && m.depth > 0:
		m.add(op(api.OpPick, m.r.Intn(m.depth)))
	case kind < 5:
		m.number(nest - 1)
		m.add(pick(op(api.OpNeg, api.KTime), op(api.OpNot, api.KBool), op(api.OpAbs, api.KSint), ins(api.OpLoadAt, 2, 3, 0, ""), ins(api.OpCheckAt, 0, 2, 7, ""), ins(api.OpConvert, api.KInt, api.KByte, 0, "")))
	case kind < 7:
		m.number(nest - 1)
		m.above(func() { m.number(nest - 1) })
		m.add(pick(ins(api.OpApply, api.KInt, api.ExMul, 0, ""), ins(api.OpShift, api.KWord, 0, 0, "ROR"), op(api.OpMin, 0), op(api.OpMax, 0)))
	default:
		m.number(nest - 1)
		m.add(op(api.OpDup, 0))
		m.depth += 2
		m.number(nest - 1)
		m.depth -= 2
		m.add(op(api.OpSel, 0))
	}
}

// above makes a part with one number more below.
func (m *maker) above(part func()) {
	m.depth++
	part()
	m.depth--
}

// part leaves the stack as it found it.
func (m *maker) part(nest int) {
	if nest == 0 {
		m.add(op(api.OpStep, 0))
		return
	}
	switch m.r.Intn(7) {
	case 0:
		m.number(nest)
		m.add(op([]int{api.OpStore, api.OpDrop}[m.r.Intn(2)], m.r.Intn(len(someKinds))))
	case 1:
		m.number(nest)
		m.above(func() { m.number(nest - 1) })
		m.add(ins(api.OpStoreAt, 2, 3, -3, ""))
	case 2:
		m.add(ins(api.OpCall, 0, 0, 0, []string{"R_TRIG", "F_TRIG"}[m.r.Intn(2)]))
	case 3: // a number stays while a part is done
		m.number(nest - 1)
		m.above(func() { m.part(nest - 1) })
		m.add(op(api.OpDrop, 0))
	case 4: // a choice
		m.number(nest - 1)
		from := m.add(op([]int{api.OpZero, api.OpOther}[m.r.Intn(2)], 0))
		m.part(nest - 1)
		out := m.add(op(api.OpJump, 0))
		m.l[from].A = len(m.l)
		m.part(nest - 1)
		m.l[out].A = len(m.l)
	case 5: // a loop
		begin := len(m.l)
		m.number(nest - 1)
		out := m.add(op(api.OpZero, 0))
		m.part(nest - 1)
		m.add(op(api.OpJump, begin))
		m.l[out].A = len(m.l)
	default:
		m.part(nest - 1)
		m.part(nest - 1)
	}
}

// make tells code over someKinds: parts above some numbers, and an end.
func (m *maker) make() api.Code {
	m.depth = []int{0, 0, 1, 5, 200}[m.r.Intn(5)]
	m.l = times(m.depth, push)
	for range m.r.Intn(4) {
		m.part(m.r.Intn(5))
	}
	m.add(end)
	return over(someKinds, m.l...)
}

func TestMadeRight(t *testing.T) {
	m := maker{r: rand.New(rand.NewSource(20))}
	for range 1500 {
		if c := m.make(); !wantModel(t, c) {
			t.Fatalf("the maker makes wrong code: %s", brief(c))
		}
	}
}

// TestMadeWrong changes one instruction of right code, or some.
func TestMadeWrong(t *testing.T) {
	m := maker{r: rand.New(rand.NewSource(201))}
	right, wrong := 0, 0
	for range 3000 {
		c := m.make()
		for range 1 + m.r.Intn(3) {
			at := m.r.Intn(len(c.L))
			switch some := someOf(m.r.Intn(len(c.L))); m.r.Intn(4) {
			case 0:
				c.L[at] = some[m.r.Intn(len(some))]
			case 1:
				c.L[at] = some[17+m.r.Intn(3)] // a jump
			case 2:
				other := m.r.Intn(len(c.L))
				c.L[at], c.L[other] = c.L[other], c.L[at]
			default:
				if x := &c.L[at]; x.Op == api.OpJump || x.Op == api.OpZero || x.Op == api.OpOther {
					x.A = m.r.Intn(len(c.L))
				}
			}
		}
		if wantModel(t, c) {
			right++
		} else {
			wrong++
		}
	}
	if right < 300 || wrong < 300 {
		t.Errorf("%d right, %d wrong: too few of one", right, wrong)
	}
}

// TestAnyWays makes short code of any instructions that are right by themselves.
func TestAnyWays(t *testing.T) {
	r := rand.New(rand.NewSource(203))
	for range 6000 {
		size := 1 + r.Intn(9)
		l := times([]int{0, 0, 1, 3}[r.Intn(4)], push)
		begin := len(l)
		for range size {
			some := someOf(r.Intn(begin + size))
			l = append(l, some[r.Intn(len(some))])
		}
		wantModel(t, over(someKinds, l...))
	}
}

// TestNoCheckNeeded runs right code on a bare stack of MaxStack numbers that
// asks nothing ahead: it stays within, and is as deep as Depths tells, whatever
// is chosen at each instruction that parts.
func TestNoCheckNeeded(t *testing.T) {
	m := maker{r: rand.New(rand.NewSource(204))}
	for range 600 {
		c := m.make()
		if m.r.Intn(2) == 0 {
			c.L[m.r.Intn(len(c.L))] = op(api.OpStep, 0)
		}
		depths, err := code.Depths(c)
		if err != nil {
			continue
		}
		var stack [api.MaxStack]int
		at, depth := 0, 0
		for range 400 {
			if depth != depths[at] {
				t.Fatalf("P20.3: depth %d at %d, told %d: %s", depth, at, depths[at], brief(c))
			}
			x := c.L[at]
			takes, puts := effectOf(x)
			for range takes {
				depth--
				stack[depth]--
			}
			for range puts {
				stack[depth]++
				depth++
			}
			next := modelNext(x, at)
			if len(next) == 0 {
				break
			}
			at = next[m.r.Intn(len(next))]
		}
	}
}
