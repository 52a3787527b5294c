package num

import (
	"math"
	"math/big"
	"testing"

	"rung/api"
)

// kinds is the document's table, written out by hand.
var kinds = []struct {
	kind, width int
	signed      bool
	least, most int64
	name        string
}{
	{api.KBool, 1, false, 0, 1, "BOOL"},
	{api.KSint, 8, true, -128, 127, "SINT"},
	{api.KInt, 16, true, -32768, 32767, "INT"},
	{api.KDint, 32, true, -2147483648, 2147483647, "DINT"},
	{api.KUsint, 8, false, 0, 255, "USINT"},
	{api.KUint, 16, false, 0, 65535, "UINT"},
	{api.KUdint, 32, false, 0, 4294967295, "UDINT"},
	{api.KByte, 8, false, 0, 255, "BYTE"},
	{api.KWord, 16, false, 0, 65535, "WORD"},
	{api.KDword, 32, false, 0, 4294967295, "DWORD"},
	{api.KTime, 32, true, -2147483648, 2147483647, "TIME"},
}

var noScalars = []int{0, -1, api.KArray, api.KStruct, api.KFb, api.KFb + 1, 99, 256 + api.KInt, 1<<32 + api.KInt, math.MinInt, math.MaxInt}

var operators = []int{api.ExMul, api.ExDiv, api.ExMod, api.ExAdd, api.ExSub, api.ExLt, api.ExGt, api.ExLe, api.ExGe, api.ExEq, api.ExNe, api.ExAnd, api.ExXor, api.ExOr}

var noOperators = []int{0, -1, api.ExLit, api.ExVar, api.ExNeg, api.ExNot, api.ExCall, api.ExCall + 1, 99, math.MinInt, math.MaxInt}

// edges are numbers about each width's bounds and those of int64.
func edges() []int64 {
	out := []int64{0, 3, -3, 5, 7, -7, 0x5A, 0x1234, 0x12345678, -0x12345678, 0x123456789ABCDEF, math.MaxInt64, math.MaxInt64 - 1, math.MinInt64, math.MinInt64 + 1}
	for _, bit := range []int{0, 1, 7, 8, 15, 16, 31, 32, 33, 48, 62} {
		for _, d := range []int64{-1, 0, 1} {
			out = append(out, int64(1)<<bit+d, -(int64(1)<<bit)+d)
		}
	}
	return out
}

// wrapped is the document's Wrap, by numbers of any length instead of shifts.
func wrapped(kind int, n *big.Int) int64 {
	for _, k := range kinds {
		if k.kind != kind {
			continue
		}
		if kind == api.KBool {
			return int64(n.CmpAbs(new(big.Int)) & 1)
		}
		size := new(big.Int).Lsh(big.NewInt(1), uint(k.width))
		m := new(big.Int).Mod(n, size)
		if m.Cmp(big.NewInt(k.most)) > 0 {
			m.Sub(m, size)
		}
		return m.Int64()
	}
	return 0
}

func one(holds bool) *big.Int {
	if holds {
		return big.NewInt(1)
	}
	return big.NewInt(0)
}

// applied is the document's Apply, by numbers of any length.
func applied(op, kind int, a, b int64) (int64, int) {
	x, y := big.NewInt(wrapped(kind, big.NewInt(a))), big.NewInt(wrapped(kind, big.NewInt(b)))
	r := new(big.Int)
	if (op == api.ExDiv || op == api.ExMod) && y.Sign() == 0 {
		return 0, api.FaultZero
	}
	switch op {
	case api.ExMul:
		r.Mul(x, y)
	case api.ExDiv:
		r.Quo(x, y)
	case api.ExMod:
		r.Rem(x, y)
	case api.ExAdd:
		r.Add(x, y)
	case api.ExSub:
		r.Sub(x, y)
	case api.ExLt:
		r = one(x.Cmp(y) < 0)
	case api.ExGt:
		r = one(x.Cmp(y) > 0)
	case api.ExLe:
		r = one(x.Cmp(y) <= 0)
	case api.ExGe:
		r = one(x.Cmp(y) >= 0)
	case api.ExEq:
		r = one(x.Cmp(y) == 0)
	case api.ExNe:
		r = one(x.Cmp(y) != 0)
	case api.ExAnd:
		r.And(x, y)
	case api.ExXor:
		r.Xor(x, y)
	case api.ExOr:
		r.Or(x, y)
	}
	return wrapped(kind, r), api.FaultNone
}

// P1.1: what each scalar kind is.
func TestKinds(t *testing.T) {
	for _, k := range kinds {
		if !Scalar(k.kind) {
			t.Errorf("Scalar(%s) is false", k.name)
		}
		if got := Signed(k.kind); got != k.signed {
			t.Errorf("Signed(%s): %v", k.name, got)
		}
		if got := Width(k.kind); got != k.width {
			t.Errorf("Width(%s): %d", k.name, got)
		}
		if least, most := Range(k.kind); least != k.least || most != k.most {
			t.Errorf("Range(%s): %d, %d", k.name, least, most)
		}
		if got := Name(k.kind); got != k.name {
			t.Errorf("Name(%d): %q, not %q", k.kind, got, k.name)
		}
		if got := Kind(k.name); got != k.kind {
			t.Errorf("Kind(%q): %d, not %d", k.name, got, k.kind)
		}
	}
}

// P1.1: what is no scalar, no scalar's word.
func TestNoKinds(t *testing.T) {
	for _, kind := range noScalars {
		least, most := Range(kind)
		if Scalar(kind) || Signed(kind) || Width(kind) != 0 || least != 0 || most != 0 || Name(kind) != "" {
			t.Errorf("%d: %v, %v, %d, %d to %d, %q", kind, Scalar(kind), Signed(kind), Width(kind), least, most, Name(kind))
		}
	}
	for _, name := range []string{"", "bool", "Bool", "BOO", "BOOLS", " BOOL", "BOOL ", "BOOL\x00", "LINT", "REAL", "STRING", "ARRAY", "STRUCT", "TON", "1", "INT\xff"} {
		if got := Kind(name); got != 0 {
			t.Errorf("Kind(%q): %d", name, got)
		}
	}
}

// P1.2: the lowest bits count; BOOL is 1 of all but 0.
func TestWrap(t *testing.T) {
	for _, x := range []struct {
		kind    int
		n, want int64
	}{
		{api.KSint, 200, -56}, {api.KSint, 127, 127}, {api.KSint, 128, -128}, {api.KSint, -129, 127},
		{api.KInt, 32768, -32768}, {api.KInt, -32769, 32767}, {api.KUint, -1, 65535}, {api.KUint, 65536, 0},
		{api.KDint, 1 << 31, math.MinInt32}, {api.KUdint, -1, math.MaxUint32}, {api.KUdint, 1 << 32, 0},
		{api.KTime, math.MinInt32 - 1, math.MaxInt32}, {api.KByte, 256, 0}, {api.KWord, -65536, 0}, {api.KDword, math.MinInt64, 0},
		{api.KBool, 0, 0}, {api.KBool, 1, 1}, {api.KBool, 2, 1}, {api.KBool, 256, 1}, {api.KBool, -1, 1}, {api.KBool, math.MinInt64, 1}, {api.KBool, 1 << 32, 1},
	} {
		if got := Wrap(x.kind, x.n); got != x.want {
			t.Errorf("Wrap(%s, %d): %d, not %d", Name(x.kind), x.n, got, x.want)
		}
	}
	for _, n := range edges() {
		for _, k := range kinds {
			if got, want := Wrap(k.kind, n), wrapped(k.kind, big.NewInt(n)); got != want {
				t.Errorf("Wrap(%s, %d): %d, not %d", k.name, n, got, want)
			}
		}
		for _, kind := range noScalars {
			if got := Wrap(kind, n); got != 0 {
				t.Errorf("Wrap(%d, %d): %d", kind, n, got)
			}
		}
	}
}

// P1.2: every answer is of the range, whatever is handed in; of no scalar, and
// of an operator that is none, it is 0.
func TestAnswersAreWrapped(t *testing.T) {
	all := append([]int{}, noScalars...)
	for _, k := range kinds {
		all = append(all, k.kind)
	}
	within := func(call string, kind int, n int64) {
		if least, most := Range(kind); n < least || n > most {
			t.Errorf("%s of %d: %d is outside %d to %d", call, kind, n, least, most)
		}
	}
	ops := append(append([]int{}, operators...), noOperators...)
	for _, kind := range all {
		for _, a := range edges() {
			within("Neg", kind, Neg(kind, a))
			within("Not", kind, Not(kind, a))
			for _, from := range all {
				within("Convert", kind, Convert(from, kind, a))
			}
			for _, b := range edges() {
				for _, op := range ops {
					n, _ := Apply(op, kind, a, b)
					within("Apply", kind, n)
				}
				for _, name := range []string{"SHL", "SHR", "ROL", "ROR", ""} {
					within("Shift", kind, Shift(name, kind, a, b))
				}
			}
		}
	}
}

// P1.3: Neg and Not.
func TestNegNot(t *testing.T) {
	for _, x := range []struct {
		kind         int
		a, neg, turn int64
	}{
		{api.KSint, 5, -5, -6}, {api.KSint, -128, -128, 127}, {api.KSint, 200, 56, 55}, {api.KInt, 0, 0, -1}, {api.KInt, -32768, -32768, 32767},
		{api.KDint, math.MinInt32, math.MinInt32, math.MaxInt32}, {api.KTime, 1500, -1500, -1501}, {api.KUsint, 1, 255, 254}, {api.KUint, 0, 0, 65535},
		{api.KUdint, 1, math.MaxUint32, math.MaxUint32 - 1}, {api.KByte, 0x0F, 0xF1, 0xF0}, {api.KWord, 0xFF, 0xFF01, 0xFF00}, {api.KDword, 0, 0, math.MaxUint32},
		{api.KBool, 0, 0, 1}, {api.KBool, 1, 1, 0}, {api.KBool, 5, 1, 0}, {api.KBool, -1, 1, 0}, {api.KBool, math.MinInt64, 1, 0},
		{0, 5, 0, 0}, {0, 0, 0, 0}, {-1, 5, 0, 0}, {api.KArray, 5, 0, 0}, {api.KFb, 0, 0, 0}, {99, -1, 0, 0},
	} {
		if got := Neg(x.kind, x.a); got != x.neg {
			t.Errorf("Neg(%d, %d): %d, not %d", x.kind, x.a, got, x.neg)
		}
		if got := Not(x.kind, x.a); got != x.turn {
			t.Errorf("Not(%d, %d): %d, not %d", x.kind, x.a, got, x.turn)
		}
	}
	for _, k := range kinds {
		for _, a := range edges() {
			if got, want := Neg(k.kind, a), wrapped(k.kind, new(big.Int).Neg(big.NewInt(a))); got != want {
				t.Errorf("Neg(%s, %d): %d, not %d", k.name, a, got, want)
			}
			want := wrapped(k.kind, new(big.Int).Not(big.NewInt(a)))
			if k.kind == api.KBool {
				want = one(a == 0).Int64()
			}
			if got := Not(k.kind, a); got != want {
				t.Errorf("Not(%s, %d): %d, not %d", k.name, a, got, want)
			}
		}
	}
}

// P1.3: single answers of each operator, written out.
func TestApply(t *testing.T) {
	for _, x := range []struct {
		op, kind   int
		a, b, want int64
		fault      int
	}{
		{api.ExAdd, api.KInt, 2, 3, 5, 0}, {api.ExAdd, api.KInt, 32767, 1, -32768, 0}, {api.ExAdd, api.KBool, 1, 1, 1, 0}, {api.ExAdd, api.KTime, math.MaxInt32, 1, math.MinInt32, 0},
		{api.ExSub, api.KUsint, 0, 1, 255, 0}, {api.ExSub, api.KSint, -128, 1, 127, 0}, {api.ExSub, api.KUdint, 1, 2, math.MaxUint32, 0},
		{api.ExMul, api.KInt, 300, 300, 24464, 0}, {api.ExMul, api.KUdint, math.MaxUint32, math.MaxUint32, 1, 0}, {api.ExMul, api.KDint, math.MinInt32, -1, math.MinInt32, 0},
		{api.ExDiv, api.KInt, 7, 2, 3, 0}, {api.ExDiv, api.KInt, -7, 2, -3, 0}, {api.ExDiv, api.KInt, 7, -2, -3, 0}, {api.ExDiv, api.KInt, -7, -2, 3, 0},
		{api.ExMod, api.KInt, 7, 2, 1, 0}, {api.ExMod, api.KInt, -7, 2, -1, 0}, {api.ExMod, api.KInt, 7, -2, 1, 0}, {api.ExMod, api.KInt, -7, -2, -1, 0},
		{api.ExDiv, api.KInt, -32768, -1, -32768, 0}, {api.ExMod, api.KInt, -32768, -1, 0, 0}, {api.ExDiv, api.KDint, math.MinInt32, -1, math.MinInt32, 0},
		{api.ExDiv, api.KUsint, -1, 2, 127, 0}, {api.ExDiv, api.KSint, 255, 2, 0, 0},
		{api.ExDiv, api.KInt, 7, 0, 0, api.FaultZero}, {api.ExMod, api.KInt, 7, 0, 0, api.FaultZero}, {api.ExDiv, api.KInt, 0, 0, 0, api.FaultZero},
		{api.ExDiv, api.KInt, 7, 65536, 0, api.FaultZero}, {api.ExMod, api.KByte, 7, -256, 0, api.FaultZero}, {api.ExDiv, api.KBool, 1, 0, 0, api.FaultZero}, {api.ExDiv, api.KBool, 1, 256, 1, 0},
		{api.ExLt, api.KSint, 200, 1, 1, 0}, {api.ExLt, api.KUsint, 200, 1, 0, 0}, {api.ExLt, api.KInt, 3, 3, 0, 0}, {api.ExGt, api.KInt, 4, 3, 1, 0}, {api.ExGt, api.KInt, 3, 3, 0, 0},
		{api.ExLe, api.KInt, 3, 3, 1, 0}, {api.ExLe, api.KInt, 4, 3, 0, 0}, {api.ExGe, api.KInt, 3, 3, 1, 0}, {api.ExGe, api.KInt, 2, 3, 0, 0},
		{api.ExEq, api.KByte, 256, 0, 1, 0}, {api.ExEq, api.KInt, 3, 4, 0, 0}, {api.ExNe, api.KInt, 3, 4, 1, 0}, {api.ExNe, api.KBool, 2, 9, 0, 0},
		{api.ExAnd, api.KByte, 0xF0, 0x3C, 0x30, 0}, {api.ExAnd, api.KBool, 2, 1, 1, 0}, {api.ExAnd, api.KInt, -1, 0x7F00, 0x7F00, 0}, {api.ExOr, api.KSint, -128, 1, -127, 0}, {api.ExOr, api.KBool, 0, 8, 1, 0},
		{api.ExXor, api.KDword, math.MaxUint32, 1, math.MaxUint32 - 1, 0}, {api.ExXor, api.KBool, 2, 1, 0, 0},
	} {
		if n, fault := Apply(x.op, x.kind, x.a, x.b); n != x.want || fault != x.fault {
			t.Errorf("Apply(%d, %s, %d, %d): %d, %d, not %d, %d", x.op, Name(x.kind), x.a, x.b, n, fault, x.want, x.fault)
		}
	}
}

func sameApplied(t *testing.T, op, kind int, a, b int64) {
	n, fault := Apply(op, kind, a, b)
	if want, wantFault := applied(op, kind, a, b); n != want || fault != wantFault {
		t.Fatalf("Apply(%d, %s, %d, %d): %d, %d, not %d, %d", op, Name(kind), a, b, n, fault, want, wantFault)
	}
}

// P1.3: all pairs of the narrow kinds, the edges of all kinds.
func TestApplyAsReckoned(t *testing.T) {
	for _, op := range operators {
		for _, k := range kinds {
			for _, a := range edges() {
				for _, b := range edges() {
					sameApplied(t, op, k.kind, a, b)
				}
			}
			if k.width > 8 {
				continue
			}
			for a := k.least; a <= k.most; a++ {
				for b := k.least; b <= k.most; b++ {
					sameApplied(t, op, k.kind, a, b)
				}
			}
		}
	}
}

// P1.2, P1.3: what is no operator, or no scalar, is 0 without a fault, a
// divisor of 0 included.
func TestApplyOfNothing(t *testing.T) {
	for _, a := range edges() {
		for _, b := range []int64{0, 1, -5, math.MinInt64} {
			for _, op := range noOperators {
				for _, k := range kinds {
					if n, fault := Apply(op, k.kind, a, b); n != 0 || fault != api.FaultNone {
						t.Fatalf("Apply(%d, %s, %d, %d): %d, %d", op, k.name, a, b, n, fault)
					}
				}
			}
			for _, op := range operators {
				for _, kind := range noScalars {
					if n, fault := Apply(op, kind, a, b); n != 0 || fault != api.FaultNone {
						t.Fatalf("Apply(%d, %d, %d, %d): %d, %d", op, kind, a, b, n, fault)
					}
				}
			}
		}
	}
}

// P1.3: quotient times b and the remainder is a; the remainder is of a's sign
// and smaller than b.
func TestQuotientAndRemainder(t *testing.T) {
	for _, k := range kinds {
		for _, x := range edges() {
			for _, y := range edges() {
				q, fault := Apply(api.ExDiv, k.kind, x, y)
				r, _ := Apply(api.ExMod, k.kind, x, y)
				a, b := Wrap(k.kind, x), Wrap(k.kind, y)
				if (fault == api.FaultZero) != (b == 0) {
					t.Fatalf("%s: %d, %d: fault %d", k.name, x, y, fault)
				}
				if fault != api.FaultNone {
					continue
				}
				if Wrap(k.kind, q*b+r) != a || r < 0 && a >= 0 || r > 0 && a <= 0 || max(r, -r) >= max(b, -b) {
					t.Fatalf("%s: %d, %d: %d, %d", k.name, a, b, q, r)
				}
			}
		}
	}
}

// P1.4: from any kind to any.
func TestConvert(t *testing.T) {
	for _, x := range []struct {
		from, to int
		n, want  int64
	}{
		{api.KInt, api.KUint, -1, 65535}, {api.KUint, api.KInt, 65535, -1}, {api.KInt, api.KDint, -5, -5}, {api.KUdint, api.KSint, 384, -128},
		{api.KSint, api.KUdint, 200, math.MaxUint32 - 55}, {api.KUsint, api.KDint, -1, 255}, {api.KInt, api.KBool, 65536, 0}, {api.KDint, api.KBool, 65536, 1},
		{api.KBool, api.KTime, 9, 1}, {api.KDint, api.KTime, -1500, -1500}, {api.KDword, api.KTime, math.MaxUint32, -1}, {api.KByte, api.KByte, 511, 255},
		{0, api.KInt, 5, 0}, {api.KInt, 0, 5, 0}, {api.KArray, api.KBool, 5, 0}, {api.KInt, api.KFb, 5, 0}, {-1, -1, 5, 0},
	} {
		if got := Convert(x.from, x.to, x.n); got != x.want {
			t.Errorf("Convert(%d, %d, %d): %d, not %d", x.from, x.to, x.n, got, x.want)
		}
	}
	for _, from := range kinds {
		for _, to := range kinds {
			for _, n := range edges() {
				want := wrapped(to.kind, big.NewInt(wrapped(from.kind, big.NewInt(n))))
				if got := Convert(from.kind, to.kind, n); got != want {
					t.Errorf("Convert(%s, %s, %d): %d, not %d", from.name, to.name, n, got, want)
				}
			}
		}
	}
}

// moved is the document's Shift, bit by bit.
func moved(name string, width int, a, n int64) int64 {
	n = max(n, 0)
	var out int64
	for bit := range int64(width) {
		if a>>bit&1 == 0 {
			continue
		}
		to := bit
		switch name {
		case "SHL":
			to = bit + min(n, int64(width))
		case "SHR":
			to = bit - min(n, int64(width))
		case "ROL":
			to = (bit + n%int64(width)) % int64(width)
		case "ROR":
			to = (bit + int64(width) - n%int64(width)) % int64(width)
		}
		if to >= 0 && to < int64(width) {
			out |= 1 << to
		}
	}
	return out
}

// P1.4: single shifts, written out: past the width, below 0, other kinds and
// names.
func TestShift(t *testing.T) {
	for _, x := range []struct {
		name       string
		kind       int
		a, n, want int64
	}{
		{"SHL", api.KByte, 0x81, 1, 0x02}, {"SHR", api.KByte, 0x81, 1, 0x40}, {"ROL", api.KByte, 0x81, 1, 0x03}, {"ROR", api.KByte, 0x81, 1, 0xC0},
		{"SHL", api.KWord, 1, 15, 0x8000}, {"SHL", api.KWord, 1, 16, 0}, {"SHL", api.KWord, 1, 17, 0}, {"SHL", api.KByte, 1, 64, 0}, {"SHL", api.KByte, 1, math.MaxInt64, 0},
		{"SHR", api.KDword, 1 << 31, 31, 1}, {"SHR", api.KDword, 1 << 31, 32, 0}, {"SHR", api.KDword, -1, 1, math.MaxInt32}, {"SHR", api.KByte, 0x1FF, 1, 0x7F},
		{"ROL", api.KDword, 1 << 31, 1, 1}, {"ROL", api.KWord, 1, 17, 2}, {"ROL", api.KWord, 0x8001, 16, 0x8001}, {"ROR", api.KWord, 0x8001, 32, 0x8001}, {"ROR", api.KDword, 1, 1, 1 << 31},
		{"ROL", api.KByte, 5, math.MaxInt64, 0x82}, {"ROR", api.KByte, 5, math.MaxInt64, 0x0A},
		{"SHL", api.KByte, 0x85, -1, 0x85}, {"SHR", api.KByte, 0x85, math.MinInt64, 0x85}, {"ROL", api.KByte, 0x85, -3, 0x85}, {"ROR", api.KByte, 0x85, -9, 0x85},
		{"", api.KByte, 1, 0, 0}, {"shl", api.KByte, 1, 0, 0}, {"ASH", api.KByte, 1, 1, 0}, {"SHLL", api.KWord, 1, 1, 0}, {"ROL ", api.KDword, 1, 1, 0},
	} {
		if got := Shift(x.name, x.kind, x.a, x.n); got != x.want {
			t.Errorf("Shift(%s, %s, %d, %d): %d, not %d", x.name, Name(x.kind), x.a, x.n, got, x.want)
		}
	}
}

// P1.4: all edges against the shift bit by bit.
func TestShiftAsReckoned(t *testing.T) {
	places := edges()
	for n := range int64(70) {
		places = append(places, n)
	}
	for _, name := range []string{"SHL", "SHR", "ROL", "ROR"} {
		for _, a := range edges() {
			for _, n := range places {
				for _, k := range kinds {
					want := int64(0)
					if k.kind == api.KByte || k.kind == api.KWord || k.kind == api.KDword {
						want = moved(name, k.width, a, n)
					}
					if got := Shift(name, k.kind, a, n); got != want {
						t.Fatalf("Shift(%s, %s, %d, %d): %d, not %d", name, k.name, a, n, got, want)
					}
				}
				for _, kind := range noScalars {
					if got := Shift(name, kind, a, n); got != 0 {
						t.Fatalf("Shift(%s, %d, %d, %d): %d", name, kind, a, n, got)
					}
				}
			}
		}
	}
}

// P1.5: sums, differences and products are right modulo 2^width, also those
// of numbers that weren't wrapped. (BOOL wraps to 1, not by its bit.)
func TestModulo(t *testing.T) {
	for _, k := range kinds {
		if k.kind == api.KBool {
			continue
		}
		size := new(big.Int).Lsh(big.NewInt(1), uint(k.width))
		for _, a := range edges() {
			for _, b := range edges() {
				x, y := big.NewInt(a), big.NewInt(b)
				for op, whole := range map[int]*big.Int{api.ExAdd: new(big.Int).Add(x, y), api.ExSub: new(big.Int).Sub(x, y), api.ExMul: new(big.Int).Mul(x, y)} {
					n, fault := Apply(op, k.kind, a, b)
					apart := new(big.Int).Sub(whole, big.NewInt(n))
					if fault != api.FaultNone || n < k.least || n > k.most || apart.Mod(apart, size).Sign() != 0 {
						t.Fatalf("Apply(%d, %s, %d, %d): %d, %d", op, k.name, a, b, n, fault)
					}
				}
			}
		}
	}
}
