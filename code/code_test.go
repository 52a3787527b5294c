package code_test

import (
	"errors"
	"math"
	"slices"
	"strings"
	"testing"

	"rung/api"
	"rung/code"
)

var push, end = op(api.OpPush, api.KDint), op(api.OpEnd, 0)

func op(op, a int) api.Ins { return api.Ins{Op: op, A: a} }

func ins(op, a, b int, c int64, name string) api.Ins {
	return api.Ins{Op: op, A: a, B: b, C: c, Name: name}
}

// over makes code over cells of these kinds.
func over(kinds []int, l ...api.Ins) api.Code { return api.Code{Kinds: kinds, L: l} }

func times(n int, x api.Ins) []api.Ins { return slices.Repeat([]api.Ins{x}, n) }

// join puts instructions and lists of them behind one another.
func join(parts ...any) []api.Ins {
	var l []api.Ins
	for _, part := range parts {
		switch x := part.(type) {
		case api.Ins:
			l = append(l, x)
		case []api.Ins:
			l = append(l, x...)
		}
	}
	return l
}

// wantRight holds code for right.
func wantRight(t *testing.T, promise string, c api.Code) {
	t.Helper()
	if err := code.Verify(c); err != nil {
		t.Errorf("%s: %v, wanted none: %s", promise, err, brief(c))
	}
	if l, err := code.Depths(c); err != nil || len(l) != len(c.L) {
		t.Errorf("%s: Depths: %d, %v, wanted none: %s", promise, len(l), err, brief(c))
	}
}

// wantWrong holds code for wrong at that instruction.
func wantWrong(t *testing.T, promise string, c api.Code, at int) {
	t.Helper()
	if got := placeOf(t, code.Verify(c)); got != at {
		t.Errorf("%s: wrong at %d, wanted at %d: %s", promise, got, at, brief(c))
	}
	l, err := code.Depths(c)
	if got := placeOf(t, err); got != at || len(l) != 0 {
		t.Errorf("%s: Depths: %d, wrong at %d, wanted none, at %d: %s", promise, len(l), got, at, brief(c))
	}
}

// placeOf tells where code is wrong; -1, if it isn't.
func placeOf(t *testing.T, err error) int {
	t.Helper()
	if err == nil {
		return -1
	}
	x, ok := err.(*api.PlaceError)
	if !ok || x.Err != api.ErrCode || !errors.Is(err, api.ErrCode) {
		t.Fatalf("P20.1: the error is %v, wanted a *api.PlaceError with ErrCode", err)
	}
	return x.At
}

func brief(c api.Code) string {
	text := code.Text(c)
	if len(text) > 300 {
		text = text[:300] + ".."
	}
	return strings.ReplaceAll(text, "\n", "; ")
}

// scalars and signed are written out by hand.
var (
	scalars = []int{api.KBool, api.KSint, api.KInt, api.KDint, api.KUsint, api.KUint, api.KUdint, api.KByte, api.KWord, api.KDword, api.KTime}
	signed  = []int{api.KSint, api.KInt, api.KDint, api.KTime}
	bits    = []int{api.KByte, api.KWord, api.KDword}
	ofTwo   = []int{api.ExMul, api.ExDiv, api.ExMod, api.ExAdd, api.ExSub, api.ExLt, api.ExGt, api.ExLe, api.ExGe, api.ExEq, api.ExNe, api.ExAnd, api.ExXor, api.ExOr}
	odd     = []int{math.MinInt, -1 << 32, -256, -2, -1, 0, 1<<32 + 3, 1 << 62, math.MaxInt}
)

// numbers are those round all kinds and operators, and odd ones.
func numbers() []int {
	l := slices.Clone(odd)
	for n := 1; n < 40; n++ {
		l = append(l, n)
	}
	return l
}

func TestExample(t *testing.T) {
	wantRight(t, "chapter 20's example", over([]int{api.KInt}, ins(api.OpPush, api.KDint, 0, 5, ""), op(api.OpStore, 0), end))
}

func TestNoOperator(t *testing.T) {
	for _, n := range numbers() {
		if n < api.OpPush || n > api.OpPick {
			wantWrong(t, "P20.1: an operator that is none", over(nil, end, op(n, 0)), 1)
		}
	}
	for n := api.OpPush; n <= api.OpPick; n++ {
		if _, known := effects[n]; !known {
			t.Errorf("no row of operator %d", n)
		}
	}
}

// TestKinds asks for every kind, and what is none, of each operator that has one.
func TestKinds(t *testing.T) {
	for _, x := range []struct {
		op, b int
		name  string
		right []int
	}{
		{api.OpPush, 0, "", scalars},
		{api.OpNeg, 0, "", signed},
		{api.OpAbs, 0, "", signed},
		{api.OpNot, 0, "", scalars},
		{api.OpApply, api.ExAdd, "", scalars},
		{api.OpApply, api.ExLt, "", scalars},
		{api.OpConvert, api.KInt, "", scalars},
		{api.OpShift, 0, "SHL", bits},
		{api.OpShift, 0, "SHR", bits},
		{api.OpShift, 0, "ROL", bits},
		{api.OpShift, 0, "ROR", bits},
	} {
		for _, kind := range numbers() {
			c := over(nil, end, ins(x.op, kind, x.b, 7, x.name))
			if slices.Contains(x.right, kind) {
				wantRight(t, "P20.1: kinds", c)
			} else {
				wantWrong(t, "P20.1: kinds", c, 1)
			}
		}
	}
}

func TestSecondNumbers(t *testing.T) {
	for _, n := range numbers() {
		for _, kind := range scalars {
			apply := over(nil, end, ins(api.OpApply, kind, n, 0, ""))
			convert := over(nil, end, ins(api.OpConvert, kind, n, 0, ""))
			if slices.Contains(ofTwo, n) {
				wantRight(t, "P20.1: operators of two", apply)
			} else {
				wantWrong(t, "P20.1: operators of two", apply, 1)
			}
			if slices.Contains(scalars, n) {
				wantRight(t, "P20.1: kinds into which", convert)
			} else {
				wantWrong(t, "P20.1: kinds into which", convert, 1)
			}
		}
	}
}

func TestShiftNames(t *testing.T) {
	for _, name := range []string{"", "shl", "SHL ", "SH", "SHLL", "ASH", "ROT", "ABS", "TON", "\xff"} {
		wantWrong(t, "P20.1: names of shifts", over(nil, end, ins(api.OpShift, api.KByte, 0, 0, name)), 1)
	}
}

func TestCells(t *testing.T) {
	for size := range 4 {
		kinds := slices.Repeat([]int{api.KWord}, size)
		for _, n := range append(numbers(), size-1, size) {
			for _, o := range []int{api.OpLoad, api.OpStore} {
				c := over(kinds, end, op(o, n))
				if 0 <= n && n < size {
					wantRight(t, "P20.1: cells", c)
				} else {
					wantWrong(t, "P20.1: cells", c, 1)
				}
			}
		}
	}
	all := slices.Repeat([]int{api.KBool}, api.MaxCells)
	wantRight(t, "P20.1: cells", over(all, end, op(api.OpLoad, api.MaxCells-1)))
	wantWrong(t, "P20.1: cells", over(all, end, op(api.OpLoad, api.MaxCells)), 1)
}

var ofArrays = []int{api.OpLoadAt, api.OpCheckAt, api.OpStoreAt}

func TestArrays(t *testing.T) {
	const least, greatest = -1 << 31, 1<<31 - 1
	kinds := slices.Concat([]int{api.KBool, api.KInt, api.KInt, api.KInt, api.KUint}, slices.Repeat([]int{api.KTime}, 257))
	for _, x := range []struct {
		a, b  int
		c     int64
		right bool
	}{
		{0, 1, 0, true}, {1, 1, 0, true}, {1, 3, 0, true}, {3, 1, -5, true}, {4, 1, 5, true}, {261, 1, 0, true},
		{5, 256, 0, true}, {6, 256, 0, true}, {5, 257, 0, false}, {7, 256, 0, false}, {262, 1, 0, false}, {261, 2, 0, false},
		{0, 2, 0, false}, {1, 4, 0, false}, {3, 2, 0, false}, {0, 3, 0, false}, {4, 2, 0, false},
		{1, 0, 0, false}, {1, -1, 0, false}, {-1, 1, 0, false}, {-1, 2, 0, false}, {0, 0, 0, false},
		{1, math.MaxInt, 0, false}, {1, math.MinInt, 0, false}, {math.MaxInt, 1, 0, false}, {math.MinInt, 1, 0, false},
		{math.MaxInt, math.MaxInt, 0, false}, {math.MaxInt, 256, 0, false}, {math.MinInt, math.MaxInt, 0, false},
		{1, 1, least, true}, {1, 3, least, true}, {1, 1, least - 1, false}, {1, 3, least - 1, false},
		{1, 1, greatest, true}, {1, 1, greatest + 1, false}, {1, 3, greatest - 2, true}, {1, 3, greatest - 1, false}, {1, 3, greatest, false},
		{5, 256, greatest - 255, true}, {5, 256, greatest - 254, false}, {5, 256, greatest, false},
		{1, 1, math.MaxInt64, false}, {1, 1, math.MinInt64, false}, {1, 3, math.MaxInt64, false}, {1, 3, math.MaxInt64 - 1, false},
	} {
		for _, o := range ofArrays {
			c := over(kinds, end, ins(o, x.a, x.b, x.c, ""))
			if x.right {
				wantRight(t, "P20.1: arrays", c)
			} else {
				wantWrong(t, "P20.1: arrays", c, 1)
			}
		}
	}
}

// TestArraysOfOneKind puts another kind into each place of an array.
func TestArraysOfOneKind(t *testing.T) {
	for _, size := range []int{2, 3, 17, 256} {
		for at := range size {
			kinds := slices.Repeat([]int{api.KInt}, size)
			kinds[at] = api.KUint
			for _, o := range ofArrays {
				wantWrong(t, "P20.1: an array's kinds", over(kinds, end, ins(o, 0, size, 0, "")), 1)
			}
		}
	}
}

// pinKinds are the blocks' pins of chapter 15, by hand.
var pinKinds = map[string][]int{
	"TON":    {api.KBool, api.KTime, api.KBool, api.KTime},
	"TOF":    {api.KBool, api.KTime, api.KBool, api.KTime},
	"TP":     {api.KBool, api.KTime, api.KBool, api.KTime},
	"CTU":    {api.KBool, api.KBool, api.KInt, api.KBool, api.KInt},
	"CTD":    {api.KBool, api.KBool, api.KInt, api.KBool, api.KInt},
	"CTUD":   {api.KBool, api.KBool, api.KBool, api.KBool, api.KInt, api.KBool, api.KBool, api.KInt},
	"R_TRIG": {api.KBool, api.KBool},
	"F_TRIG": {api.KBool, api.KBool},
	"SR":     {api.KBool, api.KBool, api.KBool},
	"RS":     {api.KBool, api.KBool, api.KBool},
}

func cellsOf(block string) []int {
	return slices.Concat(pinKinds[block], []int{api.KDint, api.KDint, api.KDint})
}

func TestBlocks(t *testing.T) {
	for name := range pinKinds {
		cells := cellsOf(name)
		call := func(a int) api.Ins { return op(api.OpCall, a) }
		named := func(x api.Ins, name string) api.Ins { x.Name = name; return x }
		wantRight(t, "P20.1: blocks", over(cells, end, named(call(0), name)))
		wantRight(t, "P20.1: blocks", over(slices.Concat([]int{api.KByte, api.KTime}, cells, []int{api.KDint}), end, named(call(2), name)))
		for i, kind := range cells {
			for _, other := range scalars {
				kinds := slices.Clone(cells)
				if kinds[i] = other; other != kind {
					wantWrong(t, "P20.1: a block's cells", over(kinds, end, named(call(0), name)), 1)
				}
			}
			wantWrong(t, "P20.1: a block's cells", over(cells[:i], end, named(call(0), name)), 1)
		}
		for _, a := range append(odd, 1, 2, 3, len(cells), len(cells)+1) {
			if a != 0 {
				wantWrong(t, "P20.1: a block's first cell", over(cells, end, named(call(a), name)), 1)
			}
		}
		for _, none := range []string{"", "NOPE", strings.ToLower(name), name + " ", name[1:]} {
			wantWrong(t, "P20.1: a block that is none", over(cells, end, named(call(0), none)), 1)
			wantWrong(t, "P20.1: a block that is none", over(cells, end, named(call(len(cells)-3), none)), 1)
		}
	}
}

func TestTargets(t *testing.T) {
	for _, o := range []int{api.OpJump, api.OpZero, api.OpOther} {
		for size := 2; size < 5; size++ {
			for _, n := range append(numbers(), size-1, size) {
				c := over(nil, join(end, op(o, n), times(size-2, end))...)
				if 0 <= n && n < size {
					wantRight(t, "P20.1: jumps", c)
				} else {
					wantWrong(t, "P20.1: jumps", c, 1)
				}
			}
		}
	}
	last := api.MaxCode - 1
	wantRight(t, "P20.1: jumps", over(nil, join(op(api.OpJump, last), times(last-1, push), end)...))
	wantWrong(t, "P20.1: jumps", over(nil, join(op(api.OpJump, last+1), times(last-1, push), end)...), 0)
}

func TestPicks(t *testing.T) {
	for _, n := range append(numbers(), 254, 255, 256, 257) {
		c := over(nil, end, op(api.OpPick, n))
		if 0 <= n && n <= 255 {
			wantRight(t, "P20.1: picks", c)
		} else {
			wantWrong(t, "P20.1: picks", c, 1)
		}
	}
}

// TestOtherFields fills the fields that the chapter's table doesn't name of an
// operator: they are nothing to it.
func TestOtherFields(t *testing.T) {
	kinds := cellsOf("R_TRIG")
	for _, n := range odd {
		c, name := int64(n), "anything"
		for _, x := range []api.Ins{
			ins(api.OpPush, api.KBool, n, c, name), ins(api.OpLoad, 1, n, c, name), ins(api.OpStore, 1, n, c, name),
			ins(api.OpLoadAt, 0, 2, 0, name), ins(api.OpCheckAt, 0, 2, 0, name), ins(api.OpStoreAt, 0, 2, 0, name),
			ins(api.OpNeg, api.KInt, n, c, name), ins(api.OpNot, api.KInt, n, c, name), ins(api.OpApply, api.KInt, api.ExOr, c, name),
			ins(api.OpConvert, api.KInt, api.KByte, c, name), ins(api.OpShift, api.KByte, n, c, "ROL"), ins(api.OpAbs, api.KInt, n, c, name),
			ins(api.OpMin, n, n, c, name), ins(api.OpMax, n, n, c, name), ins(api.OpSel, n, n, c, name), ins(api.OpDup, n, n, c, name),
			ins(api.OpDrop, n, n, c, name), ins(api.OpJump, 1, n, c, name), ins(api.OpZero, 1, n, c, name), ins(api.OpOther, 1, n, c, name),
			ins(api.OpStep, n, n, c, name), ins(api.OpCall, 0, n, c, "R_TRIG"), ins(api.OpEnd, n, n, c, name), ins(api.OpPick, 3, n, c, name),
		} {
			wantRight(t, "P20.1: fields that aren't asked for", over(kinds, end, x))
		}
	}
}

func TestWhole(t *testing.T) {
	wantWrong(t, "P20.1: no instruction", api.Code{}, 0)
	wantWrong(t, "P20.1: no instruction", api.Code{Kinds: []int{api.KInt}, L: []api.Ins{}}, 0)
	wantRight(t, "P20.1: MaxCode", over(nil, times(api.MaxCode, end)...))
	wantWrong(t, "P20.1: MaxCode", over(nil, times(api.MaxCode+1, end)...), 0)
	wantWrong(t, "P20.1: MaxCode", over(nil, times(3*api.MaxCode, end)...), 0)
	cells := slices.Repeat([]int{api.KTime}, api.MaxCells+1)
	wantRight(t, "P20.1: MaxCells", over(cells[:api.MaxCells], end))
	wantWrong(t, "P20.1: MaxCells", over(cells, end), 0)
	for _, kind := range numbers() {
		for at := range 3 {
			kinds := []int{api.KInt, api.KInt, api.KInt}
			if kinds[at] = kind; slices.Contains(scalars, kind) {
				wantRight(t, "P20.1: kinds of cells", over(kinds, end))
			} else {
				wantWrong(t, "P20.1: kinds of cells", over(kinds, end), 0)
				wantWrong(t, "P20.1: at 0 whatever else is wrong", over(kinds, end, end, api.Ins{}), 0)
			}
		}
	}
}

// TestFirst puts wrong instructions behind right ones: the first one counts.
func TestFirst(t *testing.T) {
	for at := range 6 {
		l := times(6, end)
		for i := at; i < 6; i++ {
			l[i] = []api.Ins{{}, op(api.OpLoad, 0), op(api.OpJump, 6), op(99, 0), op(api.OpPick, -1), op(api.OpCall, 0)}[i]
		}
		wantWrong(t, "P20.1: the first that is wrong", over(nil, l...), at)
	}
}
