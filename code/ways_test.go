package code_test

import (
	"math/rand"
	"slices"
	"testing"

	"rung/api"
	"rung/code"
)

// effects are the chapter's table once more: what each operator takes off the
// stack, and puts on (of OpPick: beside its A).
var effects = map[int][2]int{
	api.OpPush: {0, 1}, api.OpLoad: {0, 1}, api.OpStore: {1, 0},
	api.OpLoadAt: {1, 1}, api.OpCheckAt: {1, 1}, api.OpStoreAt: {2, 0},
	api.OpNeg: {1, 1}, api.OpNot: {1, 1}, api.OpApply: {2, 1}, api.OpConvert: {1, 1},
	api.OpShift: {2, 1}, api.OpAbs: {1, 1}, api.OpMin: {2, 1}, api.OpMax: {2, 1},
	api.OpSel: {3, 1}, api.OpDup: {1, 2}, api.OpDrop: {1, 0},
	api.OpJump: {0, 0}, api.OpZero: {1, 0}, api.OpOther: {1, 0},
	api.OpStep: {0, 0}, api.OpCall: {0, 0}, api.OpEnd: {0, 0}, api.OpPick: {1, 2},
}

// effectOf tells what an instruction takes and puts, by the table above.
func effectOf(x api.Ins) (takes, puts int) {
	e := effects[x.Op]
	if x.Op == api.OpPick {
		return e[0] + x.A, e[1] + x.A
	}
	return e[0], e[1]
}

// someKinds are cells for each of the instructions of someOf.
var someKinds = []int{api.KBool, api.KBool, api.KDint, api.KDint, api.KDint, api.KInt}

// someOf tells a right instruction of each operator; those that jump go to that
// one.
func someOf(to int) []api.Ins {
	return []api.Ins{
		push, op(api.OpLoad, 5), op(api.OpStore, 5),
		ins(api.OpLoadAt, 2, 3, -1, ""), ins(api.OpCheckAt, 2, 3, -1, ""), ins(api.OpStoreAt, 2, 3, -1, ""),
		op(api.OpNeg, api.KInt), op(api.OpNot, api.KBool), ins(api.OpApply, api.KInt, api.ExAdd, 0, ""), ins(api.OpConvert, api.KInt, api.KByte, 0, ""),
		ins(api.OpShift, api.KByte, 0, 0, "SHL"), op(api.OpAbs, api.KInt), op(api.OpMin, 0), op(api.OpMax, 0),
		op(api.OpSel, 0), op(api.OpDup, 0), op(api.OpDrop, 0),
		op(api.OpJump, to), op(api.OpZero, to), op(api.OpOther, to),
		op(api.OpStep, 0), ins(api.OpCall, 0, 0, 0, "R_TRIG"), end, op(api.OpPick, 0), op(api.OpPick, 1), op(api.OpPick, 4),
	}
}

// TestEffects runs each instruction with every number of numbers on the stack.
func TestEffects(t *testing.T) {
	for depth := range api.MaxStack + 1 {
		for _, x := range someOf(depth + 1) {
			takes, puts := effectOf(x)
			c := over(someKinds, join(times(depth, push), x, end)...)
			if after := depth - takes + puts; depth < takes || after > api.MaxStack {
				wantWrong(t, "P20.1: numbers on the stack", c, depth)
			} else {
				wantRight(t, "P20.1: numbers on the stack", c)
				wantDepths(t, c, depth, after)
			}
		}
	}
}

// wantDepths asks for the depths of code that pushes numbers, does one
// instruction, and ends.
func wantDepths(t *testing.T, c api.Code, depth, after int) {
	t.Helper()
	l, _ := code.Depths(c)
	for at := range depth + 1 {
		if l[at] != at {
			t.Fatalf("P20.1: depth %d at %d: %s", l[at], at, brief(c))
		}
	}
	if c.L[depth].Op == api.OpEnd {
		after = -1 // no way goes on behind it
	}
	if l[depth+1] != after {
		t.Errorf("P20.1: depth %d behind %s, wanted %d", l[depth+1], brief(over(nil, c.L[depth])), after)
	}
}

// TestPickDepths asks each OpPick for as many numbers as it needs.
func TestPickDepths(t *testing.T) {
	for n := range api.MaxStack {
		for _, depth := range []int{n, n + 1, n + 2} {
			c := over(nil, join(times(depth, push), op(api.OpPick, n), end)...)
			switch {
			case depth > api.MaxStack:
				wantWrong(t, "P20.1: picks", c, api.MaxStack)
			case depth == n, depth == api.MaxStack:
				wantWrong(t, "P20.1: picks", c, depth)
			default:
				wantRight(t, "P20.1: picks", c)
				wantDepths(t, c, depth, depth+1)
			}
		}
	}
}

func TestBehindTheLast(t *testing.T) {
	for _, x := range someOf(0) {
		takes, puts := effectOf(x)
		c := over(someKinds, join(times(6, push), x)...)
		switch x.Op {
		case api.OpEnd:
			wantRight(t, "P20.1: an end behind which there is none", c)
		case api.OpJump:
			// It goes round: the depths are unlike.
			wantWrong(t, "P20.1: a jump behind which there is none", c, 0)
			wantRight(t, "P20.1: a jump behind which there is none", over(nil, x))
		case api.OpZero, api.OpOther:
			wantWrong(t, "P20.1: on behind the last", over(nil, join(push, x)...), 1)
		default:
			wantWrong(t, "P20.1: on behind the last", c, 6)
		}
		if takes == 0 && puts == 0 && x.Op != api.OpJump && x.Op != api.OpEnd {
			wantWrong(t, "P20.1: on behind the last", over(someKinds, x), 0)
		}
		// What no way comes to may stand there.
		wantRight(t, "P20.1: not come to", over(someKinds, end, x))
	}
}

func TestWays(t *testing.T) {
	zero := func(to int) api.Ins { return op(api.OpZero, to) }
	other := func(to int) api.Ins { return op(api.OpOther, to) }
	jump := func(to int) api.Ins { return op(api.OpJump, to) }
	drop, step, dup := op(api.OpDrop, 0), op(api.OpStep, 0), op(api.OpDup, 0)
	for i, x := range []struct {
		l  []api.Ins
		at int // -1: it is right, with these depths
		d  []int
	}{
		{join(end), -1, []int{0}},
		{join(jump(0)), -1, []int{0}},
		{join(step, jump(0)), -1, []int{0, 0}},
		{join(jump(1), jump(0)), -1, []int{0, 0}},
		{join(push, zero(3), step, end), -1, []int{0, 1, 0, 0}},
		{join(push, other(3), step, end), -1, []int{0, 1, 0, 0}},
		{join(push, zero(1), end), 1, nil},
		{join(push, dup, zero(1), end), -1, []int{0, 1, 2, 1}},
		{join(push, dup, other(1), end), -1, []int{0, 1, 2, 1}},
		{join(jump(3), drop, drop, end), -1, []int{0, -1, -1, 0}},
		{join(push, zero(4), push, jump(5), push, drop, end), -1, []int{0, 1, 0, 1, 0, 1, 0}},
		{join(push, zero(4), push, jump(4), drop, end), 4, nil},
		{join(push, zero(4), push, jump(4), end), 4, nil},
		{join(push, other(4), push, jump(4), end), 4, nil},
		{join(push, jump(0)), 0, nil},
		{join(drop, end), 0, nil},
		{join(push, drop, drop, end), 2, nil},
		{join(step, step), 1, nil},
		{join(push), 0, nil},
		{join(push, push, zero(0), push), 0, nil},
		// A way ends where it is wrong: what is behind isn't come to by it.
		{join(drop, jump(3), jump(2), drop, end), 0, nil},
		{join(jump(2), end, drop, jump(1)), 2, nil},
		{join(push, jump(3), drop, drop, drop, end), 4, nil},
		// The least number counts, not the way that is gone first.
		{join(push, zero(5), drop, end, end, drop, end), 2, nil},
		{join(push, other(5), step, end, end, drop, end), 5, nil},
		{join(jump(2), drop, push, zero(1), drop, end), 1, nil},
		{join(jump(4), drop, end, end, push, zero(1), drop, end), 1, nil},
		{join(jump(3), drop, end, push, zero(6), drop, push, jump(1)), 5, nil},
		// A way goes on with a depth that is unlike another's: it may be wrong
		// at a lesser number.
		{join(jump(4), drop, drop, end, push, zero(7), push, push, jump(2)), 2, nil},
		{join(jump(3), drop, end, push, zero(6), push, jump(1)), 1, nil},
		{join(jump(3), drop, end, push, zero(6), jump(7), push, jump(1)), 1, nil},
		{join(jump(3), drop, end, push, other(6), jump(7), push, jump(1)), 1, nil},
		{join(push, jump(4), drop, end, push, zero(2), zero(2), end), 2, nil},
		{join(push, push, jump(4), end, dup, zero(4), drop, end), -1, []int{0, 1, 2, -1, 2, 3, 2, 1}},
		{join(push, push, zero(0), end), 0, nil},
		{join(step, push, zero(4), jump(1), push, zero(1), end), -1, []int{0, 0, 1, 0, 0, 1, 0}},
		{join(step, push, zero(4), jump(1), push, jump(1)), 1, nil},
	} {
		c := over(nil, x.l...)
		if x.at >= 0 {
			wantWrong(t, "P20.1: ways", c, x.at)
			continue
		}
		wantRight(t, "P20.1: ways", c)
		if l, _ := code.Depths(c); !slices.Equal(l, x.d) {
			t.Errorf("P20.1: %d: depths %v, wanted %v", i, l, x.d)
		}
	}
}

// TestAloneAheadOfWays: an instruction that is wrong by itself counts ahead of
// any that a way is wrong at, also where no way comes.
func TestAloneAheadOfWays(t *testing.T) {
	for at := 3; at < 8; at++ {
		l := join(op(api.OpDrop, 0), push, times(6, end))
		wantWrong(t, "P20.1: on ways", over(nil, l...), 0)
		l[at] = op(api.OpLoad, 0)
		wantWrong(t, "P20.1: first by themselves", over(nil, l...), at)
	}
}

func TestDeepest(t *testing.T) {
	full := times(api.MaxStack, push)
	wantRight(t, "P20.1: MaxStack", over(nil, join(full, end)...))
	wantWrong(t, "P20.1: MaxStack", over(nil, join(full, push, end)...), api.MaxStack)
	wantRight(t, "P20.1: MaxStack", over(nil, join(full, times(api.MaxStack, op(api.OpDrop, 0)), end)...))
	wantWrong(t, "P20.1: none left", over(nil, join(full, times(api.MaxStack+1, op(api.OpDrop, 0)), end)...), 2*api.MaxStack)
	// A loop that pushes is wrong where it begins, though it overflows later.
	wantWrong(t, "P20.1: a loop that pushes", over(nil, join(op(api.OpStep, 0), push, op(api.OpJump, 1))...), 1)
	wantWrong(t, "P20.1: a loop that drops", over(nil, join(full, op(api.OpDrop, 0), op(api.OpJump, api.MaxStack))...), api.MaxStack)
}

// TestAllStates goes through code that has each depth at almost each
// instruction: as many states as there can be.
func TestAllStates(t *testing.T) {
	long := times(api.MaxCode-2, op(api.OpStep, 0))
	wantWrong(t, "P20.1: a long loop that pushes", over(nil, join(long, push, op(api.OpJump, 0))...), 0)
	wantRight(t, "P20.1: a long loop", over(nil, join(long, op(api.OpStep, 0), op(api.OpJump, 0))...))
	// Depths grow and fall by ways that part almost everywhere.
	r := rand.New(rand.NewSource(208))
	l := times(1, push)
	for len(l) < api.MaxCode-1 {
		l = append(l, []api.Ins{op(api.OpDup, 0), op(api.OpZero, r.Intn(api.MaxCode))}[r.Intn(2)])
	}
	l[1] = push // deeper, that it doesn't end at once
	wantWrong(t, "P20.1: ways that part everywhere", over(nil, join(l, op(api.OpJump, 0))...), 0)
}
