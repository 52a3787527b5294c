package vm_test

import (
	"errors"
	"math"
	"slices"
	"testing"

	"rung/api"
	"rung/code"
	"rung/fb"
	"rung/num"
	"rung/types"
	"rung/vm"
)

var end, step, drop, dup = op(api.OpEnd, 0), op(api.OpStep, 0), op(api.OpDrop, 0), op(api.OpDup, 0)

func op(op, a int) api.Ins { return api.Ins{Op: op, A: a} }

func ins(op, a, b int, c int64, name string) api.Ins {
	return api.Ins{Op: op, A: a, B: b, C: c, Name: name}
}

// push puts a number of DINT's range on.
func push(n int64) api.Ins { return ofKind(api.KDint, n) }

func ofKind(kind int, n int64) api.Ins { return api.Ins{Op: api.OpPush, A: kind, C: n} }

// wide puts a number of DINT's or UDINT's range on.
func wide(n int64) api.Ins {
	if n > math.MaxInt32 {
		return ofKind(api.KUdint, n)
	}
	return push(n)
}

func apply(operator, kind int) api.Ins { return ins(api.OpApply, kind, operator, 0, "") }

func load(cell int) api.Ins  { return op(api.OpLoad, cell) }
func store(cell int) api.Ins { return op(api.OpStore, cell) }

func over(kinds []int, l ...api.Ins) api.Code { return api.Code{Kinds: kinds, L: l} }

func list(l ...api.Ins) []api.Ins { return l }

func times(n int, l ...api.Ins) []api.Ins { return slices.Repeat(l, n) }

func brief(c api.Code) string {
	text := code.Text(c)
	if len(text) > 300 {
		text = text[:300] + ".."
	}
	return text
}

// machine tells a machine of code that is right.
func machine(t *testing.T, c api.Code) *vm.Vm {
	t.Helper()
	v, err := vm.New(c)
	if err != nil || v == nil {
		t.Fatalf("P21.1: New: %v, wanted a machine: %s", err, brief(c))
	}
	return v
}

// want holds a scan against what it should tell.
func want(t *testing.T, promise string, c api.Code, cells []int64, now int64, most int, behind []int64, fault, steps int) {
	t.Helper()
	got, f, n := machine(t, c).Scan(cells, now, most)
	if !slices.Equal(got, behind) || f != fault || n != steps {
		t.Errorf("%s: %v, fault %d, %d steps; wanted %v, fault %d, %d steps; of cells %v, at most %d: %s",
			promise, got, f, n, behind, fault, steps, cells, most, brief(c))
	}
}

// number tells the number that instructions leave on the stack, above depth
// others: its lowest 32 bits by one cell, and whether it is below 0 by another.
func number(t *testing.T, kinds []int, cells []int64, l ...api.Ins) (int64, int) {
	t.Helper()
	low, sign := len(kinds), len(kinds)+1
	kinds = append(slices.Clone(kinds), api.KUdint, api.KDint)
	l = append(slices.Clone(l), dup, store(low), push(0), op(api.OpMin, 0), store(sign), end)
	got, fault, _ := machine(t, over(kinds, l...)).Scan(cells, 0, 100)
	if got[sign] < 0 {
		return got[sign], fault
	}
	return got[low], fault
}

func wantNumber(t *testing.T, promise string, want int64, l ...api.Ins) {
	t.Helper()
	if got, fault := number(t, nil, nil, l...); got != want || fault != api.FaultNone {
		t.Errorf("%s: %d, fault %d, wanted %d: %s", promise, got, fault, want, brief(over(nil, l...)))
	}
}

var scalars = []int{api.KBool, api.KSint, api.KInt, api.KDint, api.KUsint, api.KUint, api.KUdint, api.KByte, api.KWord, api.KDword, api.KTime}

// edges are numbers round the edges of all kinds.
func edges() []int64 {
	l := []int64{0, 1, 2, 3, -1, -2, -3, 5, -7, 100}
	for _, width := range []int{7, 8, 15, 16, 31, 32} {
		for n := int64(1)<<width - 2; n <= int64(1)<<width+2; n++ {
			l = append(l, n, -n)
		}
	}
	return l
}

// onStack are those of edges that may stand on a stack.
func onStack() []int64 {
	return slices.DeleteFunc(edges(), func(n int64) bool { return n < math.MinInt32 || n > math.MaxUint32 })
}

func TestExample(t *testing.T) {
	want(t, "chapter 21's example", over(nil, push(1), push(0), apply(api.ExDiv, api.KDint), end), nil, 0, 9, nil, api.FaultZero, 0)
}

func TestPush(t *testing.T) {
	for _, x := range []struct {
		kind    int
		n, want int64
	}{
		{api.KDint, 7, 7}, {api.KDint, -7, -7}, {api.KSint, 200, -56}, {api.KUsint, -1, 255}, {api.KBool, 8, 1},
		{api.KUdint, -1, math.MaxUint32}, {api.KDint, 1 << 31, math.MinInt32}, {api.KTime, math.MaxInt64, -1}, {api.KDword, math.MinInt64 + 3, 3},
	} {
		wantNumber(t, "P21.1: OpPush", x.want, ofKind(x.kind, x.n))
	}
	for _, kind := range scalars {
		for _, n := range append(edges(), math.MinInt64, math.MaxInt64, 1<<40+5) {
			wantNumber(t, "P21.1: OpPush", num.Wrap(kind, n), ofKind(kind, n))
		}
	}
}

// TestCells loads and stores a cell of each kind: the one that is told, no other.
func TestCells(t *testing.T) {
	for at, kind := range scalars {
		for _, n := range onStack() {
			behind := make([]int64, len(scalars))
			behind[at] = num.Wrap(kind, n)
			want(t, "P21.1: OpStore", over(scalars, wide(n), store(at), end), nil, 0, 0, behind, 0, 0)
			given := make([]int64, len(scalars))
			given[at] = n
			if got, _ := number(t, scalars, given, load(at)); got != num.Wrap(kind, n) {
				t.Errorf("P21.1: OpLoad: %d, wanted %d, of kind %d", got, num.Wrap(kind, n), kind)
			}
		}
	}
	want(t, "P21.1: OpStore", over([]int{api.KSint, api.KInt}, load(1), store(0), load(0), store(1), end), []int64{7, 300}, 0, 0, []int64{44, 44}, 0, 0)
}

// TestElements asks for every index round arrays' bounds.
func TestElements(t *testing.T) {
	kinds := []int{api.KInt, api.KUsint, api.KUsint, api.KUsint, api.KInt}
	given := []int64{1, 20, 30, 40, 5}
	for _, low := range []int64{0, 1, 5, -1, -2, -3, math.MinInt32, math.MaxInt32 - 2} {
		for _, index := range []int64{low - 2, low - 1, low, low + 1, low + 2, low + 3, low + 4, -low, 0, math.MinInt32, math.MaxInt32, math.MaxUint32} {
			if index < math.MinInt32 || index > math.MaxUint32 {
				continue
			}
			at := func(op int) api.Ins { return ins(op, 1, 3, low, "") }
			there := low <= index && index <= low+2
			fault, got, stored := api.FaultIndex, slices.Clone(given), slices.Clone(given)
			if there {
				fault, got[0], stored[1+index-low] = api.FaultNone, given[1+index-low], 0x2c
			}
			want(t, "P21.1: OpLoadAt", over(kinds, wide(index), at(api.OpLoadAt), store(0), end), given, 0, 0, got, fault, 0)
			want(t, "P21.1: OpStoreAt", over(kinds, wide(index), push(300), at(api.OpStoreAt), end), given, 0, 0, stored, fault, 0)
			if n, f := number(t, kinds, given, wide(index), at(api.OpCheckAt)); f != api.FaultNone == there || there && n != index {
				t.Errorf("P21.1: OpCheckAt: %d, fault %d, of %d, from %d on", n, f, index, low)
			}
		}
	}
}

// TestElementOfOne: an array of one element, and one of MaxArray.
func TestElementOfOne(t *testing.T) {
	one := ins(api.OpLoadAt, 1, 1, 9, "")
	kinds := []int{api.KInt, api.KInt, api.KInt}
	want(t, "P21.1: OpLoadAt", over(kinds, push(9), one, store(0), end), []int64{1, 2, 3}, 0, 0, []int64{2, 2, 3}, 0, 0)
	want(t, "P21.1: OpLoadAt", over(kinds, push(10), one, store(0), end), []int64{1, 2, 3}, 0, 0, []int64{1, 2, 3}, api.FaultIndex, 0)
	kinds = slices.Repeat([]int{api.KInt}, api.MaxArray)
	last := make([]int64, api.MaxArray)
	last[api.MaxArray-1] = 6
	put := ins(api.OpStoreAt, 0, api.MaxArray, 0, "")
	want(t, "P21.1: OpStoreAt", over(kinds, push(api.MaxArray-1), push(6), put, end), nil, 0, 0, last, 0, 0)
	want(t, "P21.1: OpStoreAt", over(kinds, push(api.MaxArray), push(6), put, end), nil, 0, 0, make([]int64, api.MaxArray), api.FaultIndex, 0)
}

func TestOneNumber(t *testing.T) {
	for _, x := range []struct {
		x       api.Ins
		n, want int64
	}{
		{op(api.OpNeg, api.KDint), 5, -5}, {op(api.OpNeg, api.KSint), -128, -128}, {op(api.OpNeg, api.KDint), math.MinInt32, math.MinInt32}, {op(api.OpNeg, api.KSint), 300, -44},
		{op(api.OpNot, api.KBool), 0, 1}, {op(api.OpNot, api.KBool), 7, 0}, {op(api.OpNot, api.KByte), 1, 254}, {op(api.OpNot, api.KInt), 0, -1}, {op(api.OpNot, api.KDword), 1, math.MaxUint32 - 1},
		{op(api.OpAbs, api.KDint), 5, 5}, {op(api.OpAbs, api.KDint), -5, 5}, {op(api.OpAbs, api.KDint), 0, 0}, {op(api.OpAbs, api.KSint), -128, -128}, {op(api.OpAbs, api.KSint), -127, 127},
		{op(api.OpAbs, api.KInt), math.MinInt16, math.MinInt16}, {op(api.OpAbs, api.KTime), math.MinInt32, math.MinInt32}, {op(api.OpAbs, api.KInt), -300, 300}, {op(api.OpAbs, api.KSint), 200, 56},
		{ins(api.OpConvert, api.KDint, api.KByte, 0, ""), 511, 255}, {ins(api.OpConvert, api.KByte, api.KDint, 0, ""), 511, 255}, {ins(api.OpConvert, api.KSint, api.KUdint, 0, ""), 255, math.MaxUint32},
		{ins(api.OpConvert, api.KInt, api.KBool, 0, ""), 256, 1}, {ins(api.OpConvert, api.KBool, api.KInt, 0, ""), 256, 1}, {ins(api.OpConvert, api.KUint, api.KInt, 0, ""), 65535, -1},
	} {
		wantNumber(t, "P21.1: of one number", x.want, wide(x.n), x.x)
	}
	for _, kind := range scalars {
		for _, n := range onStack() {
			wantNumber(t, "P21.1: OpNot", num.Not(kind, n), wide(n), op(api.OpNot, kind))
			if num.Signed(kind) {
				wantNumber(t, "P21.1: OpNeg", num.Neg(kind, n), wide(n), op(api.OpNeg, kind))
			}
		}
		for _, to := range scalars {
			for _, n := range []int64{0, 1, -1, 200, -200, 1 << 15, math.MaxUint32, math.MinInt32} {
				wantNumber(t, "P21.1: OpConvert", num.Convert(kind, to, n), wide(n), ins(api.OpConvert, kind, to, 0, ""))
			}
		}
	}
}

func TestApply(t *testing.T) {
	for _, x := range []struct {
		operator, kind int
		a, b, want     int64
	}{
		{api.ExMul, api.KSint, 100, 3, 44}, {api.ExDiv, api.KInt, -7, 2, -3}, {api.ExMod, api.KInt, -7, 2, -1}, {api.ExDiv, api.KInt, -32768, -1, -32768},
		{api.ExAdd, api.KUsint, 200, 100, 44}, {api.ExSub, api.KDint, 7, 2, 5}, {api.ExSub, api.KUint, 2, 7, 65531}, {api.ExSub, api.KDint, math.MinInt32, 1, math.MaxInt32},
		{api.ExLt, api.KInt, 2, 7, 1}, {api.ExLt, api.KInt, 7, 2, 0}, {api.ExGt, api.KInt, 7, 2, 1}, {api.ExLe, api.KInt, 7, 7, 1}, {api.ExGe, api.KInt, 2, 7, 0},
		{api.ExEq, api.KByte, 256, 0, 1}, {api.ExNe, api.KDint, 256, 0, 1}, {api.ExAnd, api.KWord, 0xff0f, 0x0ff0, 0x0f00}, {api.ExXor, api.KBool, 1, 1, 0}, {api.ExOr, api.KByte, 1, 6, 7},
	} {
		wantNumber(t, "P21.1: OpApply", x.want, wide(x.a), wide(x.b), apply(x.operator, x.kind))
	}
	some := []int64{0, 1, 2, -1, -7, 127, 128, -128, 300, 65535, math.MaxInt32, math.MinInt32, math.MaxUint32}
	for operator := api.ExMul; operator <= api.ExOr; operator++ {
		for _, kind := range scalars {
			for _, a := range some {
				for _, b := range some {
					n, f := num.Apply(operator, kind, a, b)
					got, fault := number(t, nil, nil, wide(a), wide(b), apply(operator, kind))
					if fault != f || f == api.FaultNone && got != n {
						t.Errorf("P21.1: OpApply %d of %d: of %d, %d: %d, fault %d, wanted %d, %d", operator, kind, a, b, got, fault, n, f)
					}
				}
			}
		}
	}
}

func TestShift(t *testing.T) {
	for _, x := range []struct {
		name       string
		kind       int
		a, n, want int64
	}{
		{"SHL", api.KByte, 0x81, 1, 2}, {"SHR", api.KByte, 0x81, 1, 0x40}, {"ROL", api.KByte, 0x81, 1, 3}, {"ROR", api.KByte, 0x81, 1, 0xc0},
		{"SHL", api.KWord, 0x81, 9, 0x200}, {"SHL", api.KDword, 1, 31, 1 << 31}, {"SHL", api.KDword, 1, 32, 0}, {"ROL", api.KWord, 1, 33, 2}, {"SHR", api.KWord, 9, -1, 9},
	} {
		wantNumber(t, "P21.1: OpShift", x.want, wide(x.a), wide(x.n), ins(api.OpShift, x.kind, 0, 0, x.name))
	}
	for _, name := range []string{"SHL", "SHR", "ROL", "ROR"} {
		for _, kind := range []int{api.KByte, api.KWord, api.KDword} {
			for _, a := range []int64{0, 1, -1, 0x1234567, 0x80, 0x8000, 1 << 31} {
				for n := int64(-3); n < 70; n++ {
					wantNumber(t, "P21.1: OpShift", num.Shift(name, kind, a, n), wide(a), wide(n), ins(api.OpShift, kind, 0, 0, name))
				}
			}
		}
	}
}

// TestHandedOn: what is handed on is as it was put, of whatever kind.
func TestHandedOn(t *testing.T) {
	low, high := push(math.MinInt32), ofKind(api.KUdint, math.MaxUint32)
	for _, x := range []struct {
		l    []api.Ins
		want int64
	}{
		{list(push(4), push(-4), op(api.OpMin, 0)), -4}, {list(push(-4), push(4), op(api.OpMin, 0)), -4}, {list(low, high, op(api.OpMin, 0)), math.MinInt32},
		{list(push(4), push(-4), op(api.OpMax, 0)), 4}, {list(push(-4), push(4), op(api.OpMax, 0)), 4}, {list(low, high, op(api.OpMax, 0)), math.MaxUint32}, {list(high, push(-1), op(api.OpMax, 0)), math.MaxUint32},
		{list(push(0), push(1), push(2), op(api.OpSel, 0)), 1}, {list(push(1), push(1), push(2), op(api.OpSel, 0)), 2}, {list(push(-3), low, high, op(api.OpSel, 0)), math.MaxUint32},
		{list(push(0), high, low, op(api.OpSel, 0)), math.MaxUint32}, {list(high, push(1), low, op(api.OpSel, 0)), math.MinInt32}, {list(push(256), push(1), push(2), op(api.OpSel, 0)), 2},
		{list(high, dup, drop), math.MaxUint32}, {list(push(5), dup, apply(api.ExAdd, api.KDint)), 10}, {list(high, push(3), drop), math.MaxUint32},
		{list(push(1), push(2), push(3), op(api.OpPick, 0)), 3}, {list(push(1), push(2), push(3), op(api.OpPick, 1)), 2}, {list(push(1), push(2), push(3), op(api.OpPick, 2)), 1},
		{list(low, high, op(api.OpPick, 1)), math.MinInt32}, {list(high, low, op(api.OpPick, 1)), math.MaxUint32},
	} {
		wantNumber(t, "P21.1: handed on", x.want, x.l...)
	}
	// A copy leaves those above and below it where they were.
	kinds := slices.Repeat([]int{api.KDint}, 4)
	want(t, "P21.1: OpPick", over(kinds, push(1), push(2), push(3), op(api.OpPick, 1), store(0), store(1), store(2), store(3), end), nil, 0, 0, []int64{2, 3, 2, 1}, 0, 0)
	want(t, "P21.1: OpDup", over(kinds, push(1), push(2), dup, store(0), store(1), store(2), end), nil, 0, 0, []int64{2, 2, 1, 0}, 0, 0)
}

// TestDeep fills the whole stack.
func TestDeep(t *testing.T) {
	var l []api.Ins
	for n := range api.MaxStack - 1 {
		l = append(l, push(int64(n+10)))
	}
	kinds := []int{api.KDint, api.KDint}
	want(t, "P21.2: a full stack", over(kinds, append(l, op(api.OpPick, api.MaxStack-2), store(0), dup, store(1), end)...), nil, 0, 0, []int64{10, 264}, 0, 0)
	sum := append(times(api.MaxStack, push(1)), times(api.MaxStack-1, apply(api.ExAdd, api.KDint))...)
	want(t, "P21.2: a full stack", over(kinds, append(sum, store(0), end)...), nil, 0, 0, []int64{api.MaxStack, 0}, 0, 0)
}

func TestJumps(t *testing.T) {
	kinds := []int{api.KDint, api.KDint}
	for _, x := range []struct {
		n           int64
		zero, other int64
	}{{0, 1, 2}, {1, 2, 1}, {-1, 2, 1}, {256, 2, 1}, {1 << 31, 2, 1}, {math.MaxUint32, 2, 1}, {math.MinInt32, 2, 1}} {
		// 1, if it jumps over the store of 2 at the end.
		l := func(o int) []api.Ins {
			return list(push(1), store(0), wide(x.n), op(o, 6), push(2), store(0), end)
		}
		want(t, "P21.1: OpZero", over(kinds, l(api.OpZero)...), nil, 0, 0, []int64{x.zero, 0}, 0, 0)
		want(t, "P21.1: OpOther", over(kinds, l(api.OpOther)...), nil, 0, 0, []int64{x.other, 0}, 0, 0)
	}
	want(t, "P21.1: OpJump", over(kinds, op(api.OpJump, 3), push(5), store(0), op(api.OpJump, 5), end, push(6), store(1), op(api.OpJump, 4)), nil, 0, 0, []int64{0, 6}, 0, 0)
	// Back: 5 times a step, counted down in cell 0.
	back := list(step, load(0), push(1), apply(api.ExSub, api.KDint), dup, store(0), op(api.OpOther, 0), end)
	want(t, "P21.1: OpOther", over(kinds, back...), []int64{5}, 0, 5, []int64{0, 0}, 0, 5)
	want(t, "P21.1: OpOther", over(kinds, back...), []int64{5}, 0, 4, []int64{1, 0}, api.FaultSteps, 4)
	want(t, "P21.1: from instruction 0 on", over(kinds, push(1), store(0), end, push(2), store(0), end), nil, 0, 0, []int64{1, 0}, 0, 0)
}

func TestSteps(t *testing.T) {
	kinds := []int{api.KDint}
	var l []api.Ins
	for n := int64(1); n <= 4; n++ {
		l = append(l, step, push(n), store(0))
	}
	c := over(kinds, append(l, end)...)
	for most, x := range []struct{ n, fault, steps int }{{0, api.FaultSteps, 0}, {1, api.FaultSteps, 1}, {2, api.FaultSteps, 2}, {3, api.FaultSteps, 3}, {4, 0, 4}, {4, 0, 4}} {
		want(t, "P21.1: steps", c, nil, 0, most, []int64{int64(x.n)}, x.fault, x.steps)
	}
	for _, most := range []int{-1, -9, math.MinInt} {
		want(t, "P21.1: most below 0", c, nil, 0, most, []int64{0}, api.FaultSteps, 0)
		want(t, "P21.1: most below 0, no step", over(kinds, push(3), store(0), end), nil, 0, most, []int64{3}, 0, 0)
	}
	want(t, "P21.1: steps", c, nil, 0, math.MaxInt, []int64{4}, 0, 4)
}

// TestFaults: behind a fault nothing more is done; what was done stays.
func TestFaults(t *testing.T) {
	kinds := []int{api.KDint, api.KDint}
	at := func(o int) api.Ins { return ins(o, 0, 2, 5, "") }
	for _, x := range []struct {
		l     []api.Ins
		fault int
	}{
		{list(push(1), push(0), apply(api.ExDiv, api.KDint), store(1)), api.FaultZero},
		{list(push(1), push(0), apply(api.ExMod, api.KUsint), store(1)), api.FaultZero},
		{list(push(1), push(256), apply(api.ExDiv, api.KByte), store(1)), api.FaultZero},
		{list(push(4), at(api.OpLoadAt), store(1)), api.FaultIndex},
		{list(push(7), at(api.OpCheckAt), store(1)), api.FaultIndex},
		{list(push(7), push(3), at(api.OpStoreAt)), api.FaultIndex},
		{list(step, step, push(3), store(1)), api.FaultSteps},
	} {
		l := append(list(step, push(8), store(0)), x.l...)
		steps := 1
		if x.fault == api.FaultSteps {
			steps = 2
		}
		want(t, "P21.1: a fault", over(kinds, append(l, step, push(9), store(1), end)...), []int64{1, 2}, 0, 2, []int64{8, 2}, x.fault, steps)
	}
}

// TestGiven: missing cells are 0, others say nothing, all are wrapped.
func TestGiven(t *testing.T) {
	kinds := []int{api.KSint, api.KBool, api.KUint, api.KTime}
	for _, x := range []struct{ given, want []int64 }{
		{nil, []int64{0, 0, 0, 0}}, {[]int64{}, []int64{0, 0, 0, 0}}, {[]int64{5}, []int64{5, 0, 0, 0}}, {[]int64{1, 1, 1, 1}, []int64{1, 1, 1, 1}},
		{[]int64{200, 7, -1, 1 << 31}, []int64{-56, 1, 65535, math.MinInt32}}, {[]int64{1, 0, 3, 4, 5, 6}, []int64{1, 0, 3, 4}}, {[]int64{math.MinInt64, math.MinInt64, math.MaxInt64, math.MaxInt64}, []int64{0, 1, 65535, -1}},
	} {
		want(t, "P21.1: cells", over(kinds, end), x.given, 0, 0, x.want, 0, 0)
		want(t, "P21.1: cells, at a fault", over(kinds, step, end), x.given, 0, 0, x.want, api.FaultSteps, 0)
	}
	want(t, "P21.1: no cells", over(nil, end), []int64{1, 2}, 0, 0, nil, 0, 0)
	kinds = slices.Repeat([]int{api.KUsint}, api.MaxCells)
	given := slices.Repeat([]int64{258}, api.MaxCells+1)
	behind := slices.Repeat([]int64{2}, api.MaxCells)
	behind[api.MaxCells-1] = 9
	want(t, "P21.1: MaxCells", over(kinds, push(9), store(api.MaxCells-1), end), given, 0, 0, behind, 0, 0)
}

// blocks are all there are, with their pins' kinds and what they keep.
var blocks = []string{"TON", "TOF", "TP", "CTU", "CTD", "CTUD", "R_TRIG", "F_TRIG", "SR", "RS"}

func blockKinds(block string) (kinds []int, ins int) {
	in, out := types.Pins(block)
	for _, pin := range append(slices.Clone(in), out...) {
		kinds = append(kinds, types.Pin(block, pin))
	}
	return append(kinds, api.KDint, api.KDint, api.KDint), len(in)
}

// byFb does a block's call over cells of its own.
func byFb(block string, cells []int64, now int64) []int64 {
	kinds, ins := blockKinds(block)
	pins := len(kinds) - 3
	out, keep := fb.Step(block, cells[:ins], [3]int64(cells[pins:]), cells[ins:pins], now)
	return slices.Concat(cells[:ins], out, keep[:])
}

// TestCalls calls each block, one cell from the beginning on, with cells beside
// it that stay; and over cells of its own alone.
func TestCalls(t *testing.T) {
	for _, block := range blocks {
		kinds, ins := blockKinds(block)
		all := slices.Concat([]int{api.KDint}, kinds, []int{api.KDint, api.KDint})
		v := machine(t, over(all, push(77), store(0), api.Ins{Op: api.OpCall, A: 1, Name: block}, end))
		alone := machine(t, over(kinds, api.Ins{Op: api.OpCall, Name: block}, end))
		cells := make([]int64, len(all))
		own := make([]int64, len(kinds))
		for i := range 60 {
			now := int64(i*3) + math.MaxInt32 - 80 // over the clock's wrap-round
			for pin := range ins {
				own[pin] = num.Wrap(kinds[pin], int64((i/(pin+1)+i/7)%2))
				if kinds[pin] != api.KBool {
					own[pin] = int64(5 + i/20)
				}
			}
			copy(cells[1:], own)
			cells[len(cells)-2], cells[len(cells)-1] = 88, 99
			own = byFb(block, own, now)
			got, fault, steps := v.Scan(cells, now, 0)
			if behind := slices.Concat([]int64{77}, own, []int64{88, 99}); !slices.Equal(got, behind) || fault != 0 || steps != 0 {
				t.Fatalf("P21.1: OpCall of %s: %v, wanted %v", block, got, behind)
			}
			if got, _, _ := alone.Scan(cells[1:], now, 0); !slices.Equal(got, own) {
				t.Fatalf("P21.1: OpCall of %s alone: %v, wanted %v", block, got, own)
			}
			cells = got
		}
	}
}

func TestTimer(t *testing.T) {
	kinds, _ := blockKinds("TON")
	v := machine(t, over(kinds, api.Ins{Op: api.OpCall, Name: "TON"}, end))
	cells := []int64{1, 10}
	for _, x := range []struct{ now, q, et int64 }{{math.MaxInt32 - 1, 0, 0}, {math.MaxInt32, 0, 1}, {math.MinInt32, 0, 2}, {math.MaxInt32 + 8, 0, 9}, {1<<40 + math.MinInt32 + 8, 1, 10}} {
		got, _, _ := v.Scan(cells, x.now, 0)
		if got[2] != x.q || got[3] != x.et {
			t.Errorf("P21.1: at %d: Q %d, ET %d, wanted %d, %d", x.now, got[2], got[3], x.q, x.et)
		}
		cells = got
	}
}

func TestNew(t *testing.T) {
	for _, x := range []struct {
		c  api.Code
		at int
	}{
		{api.Code{}, 0}, {over([]int{api.KArray}, end), 0}, {over(nil, times(api.MaxCode+1, end)...), 0}, {over(slices.Repeat([]int{api.KInt}, api.MaxCells+1), end), 0},
		{over(nil, end, op(99, 0)), 1}, {over(nil, push(1)), 0}, {over(nil, push(1), drop, drop, end), 2}, {over(nil, push(1), load(0), end), 1},
		{over(nil, append(times(api.MaxStack+1, push(1)), end)...), api.MaxStack},
	} {
		v, err := vm.New(x.c)
		wrong, ok := errors.AsType[*api.PlaceError](err)
		if v != nil || !ok || wrong.At != x.at || wrong.Err != api.ErrCode {
			t.Errorf("P21.1: New: %v, %v, wanted none, wrong at %d: %s", v, err, x.at, brief(x.c))
		}
	}
	machine(t, over(nil, times(api.MaxCode, end)...))
	machine(t, over(slices.Repeat([]int{api.KInt}, api.MaxCells), append(times(api.MaxStack, push(1)), end)...))
}

func TestRuns(t *testing.T) {
	c := over([]int{api.KDint}, step, load(0), push(0), apply(api.ExDiv, api.KDint), drop, end)
	v, other := machine(t, c), machine(t, c)
	for n := range uint64(70) {
		if v.Runs() != n || v.Runs() != n || other.Runs() != 0 {
			t.Errorf("P21.1: %d runs, of the other %d, wanted %d, 0", v.Runs(), other.Runs(), n)
		}
		v.Scan(nil, 0, int(n%3)) // with a fault of either kind
	}
}

// TestMostInstructions: 2^22 instructions are done, and not one more.
func TestMostInstructions(t *testing.T) {
	kinds := []int{api.KDint, api.KDint}
	// Jumps, and 2^22 - 6 instructions more: 4 a round, and 2 beside them.
	count := func(jumps int, behind []api.Ins) []api.Ins {
		var l []api.Ins
		for i := range jumps {
			l = append(l, op(api.OpJump, i+1))
		}
		l = append(l, push(1<<20-2), push(1), apply(api.ExSub, api.KDint), dup, op(api.OpOther, jumps+1), store(0))
		return append(append(l, behind...), end)
	}
	stores, steps := list(push(8), store(1)), list(step)
	zero := list(push(1), push(0), apply(api.ExDiv, api.KDint), drop)
	for _, x := range []struct {
		jumps        int
		l            []api.Ins
		behind       int64
		fault, steps int
	}{
		{3, stores, 8, 0, 0}, {4, stores, 8, api.FaultSteps, 0}, {5, stores, 0, api.FaultSteps, 0}, {6, stores, 0, api.FaultSteps, 0},
		{4, steps, 0, 0, 1}, {5, steps, 0, api.FaultSteps, 1}, {6, steps, 0, api.FaultSteps, 0},
		{3, zero, 0, api.FaultZero, 0}, {4, zero, 0, api.FaultSteps, 0},
	} {
		want(t, "P21.1: 2^22 instructions", over(kinds, count(x.jumps, x.l)...), []int64{5, 0}, 0, 9, []int64{0, x.behind}, x.fault, x.steps)
	}
}

func TestNoEnd(t *testing.T) {
	kinds := []int{api.KDint, api.KDint}
	for _, l := range [][]api.Ins{list(op(api.OpJump, 0)), list(push(1), op(api.OpOther, 0), end), list(op(api.OpJump, 1), op(api.OpJump, 0))} {
		want(t, "P21.2: no end", over(kinds, l...), []int64{5, 6}, 0, 9, []int64{5, 6}, api.FaultSteps, 0)
	}
	want(t, "P21.2: no end but by steps", over(kinds, step, op(api.OpJump, 0)), nil, 0, 1000, []int64{0, 0}, api.FaultSteps, 1000)
	want(t, "P21.2: no end but by instructions", over(kinds, step, op(api.OpJump, 0)), nil, 0, math.MaxInt, []int64{0, 0}, api.FaultSteps, 1<<21)
}
