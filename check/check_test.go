package check

import (
	"errors"
	"math"
	"reflect"
	"slices"
	"strconv"
	"strings"
	"testing"

	"rung/api"
	"rung/il"
	"rung/st"
	"rung/types"
)

// words: the scalars, each at its kind's number.
var words = []string{"", "BOOL", "SINT", "INT", "DINT", "USINT", "UINT", "UDINT", "BYTE", "WORD", "DWORD", "TIME"}

var ranges = [][2]int64{{}, {0, 1}, {-128, 127}, {-32768, 32767}, {-2147483648, 2147483647}, {0, 255}, {0, 65535}, {0, 4294967295}, {0, 255}, {0, 65535}, {0, 4294967295}, {-2147483648, 2147483647}}

// Which kinds may stand where, by the chapter's words.
var (
	integers = []int{api.KSint, api.KInt, api.KDint, api.KUsint, api.KUint, api.KUdint}
	amounts  = append(slices.Clone(integers), api.KTime)
	bits     = []int{api.KBool, api.KByte, api.KWord, api.KDword}
	signed   = []int{api.KSint, api.KInt, api.KDint, api.KTime}
	moved    = []int{api.KByte, api.KWord, api.KDword}
	scalars  = []int{1, 2, 3, 4, 5, 6, 7, 8, 9, 10, 11}
)

// head declares, of each scalar kind, a variable (vINT), an array (aINT), a field
// (q.fINT), one of each block, and what lies in each area of the image.
func head() string {
	var b strings.Builder
	b.WriteString("TYPE s : STRUCT")
	for _, k := range scalars {
		b.WriteString(" f" + words[k] + " : " + words[k] + ";")
	}
	b.WriteString(" END_STRUCT; END_TYPE PROGRAM p VAR q : s;")
	for _, k := range scalars {
		b.WriteString(" v" + words[k] + " : " + words[k] + "; a" + words[k] + " : ARRAY[-1..2] OF " + words[k] + ";")
	}
	for _, name := range []string{"TON", "TOF", "TP", "CTU", "CTD", "CTUD", "R_TRIG", "F_TRIG", "SR", "RS"} {
		b.WriteString(" b" + name + " : " + name + ";")
	}
	b.WriteString(" ix AT %IX0.0 : BOOL; qx AT %QX0.0 : BOOL; mx AT %MX0.0 : BOOL; iw AT %IW0 : INT; qw AT %QW0 : INT; mw AT %MW0 : WORD; END_VAR ")
	return b.String()
}

// wrongAt: is it just this error, and of the type that is asked for?
func wrongAt(e error, at int, want api.Errno) bool {
	x, ok := e.(*api.PlaceError)
	return ok && *x == api.PlaceError{At: at, Err: want} && errors.Is(e, want)
}

// marked tells a text without its ^, which stands at the place that is told.
func marked(s string) (string, int) {
	before, behind, _ := strings.Cut(s, "^")
	return before + behind, len(before)
}

// expr reads an expression; a ^ in it tells a place. It may have 4294967296 in
// it, which trees may have, but texts don't: another number stands in for it.
func expr(t *testing.T, s string) (api.Expr, int) {
	t.Helper()
	const tooBig, standIn = "4294967296", "4294967293"
	text, at := marked(strings.ReplaceAll(s, tooBig, standIn))
	e, err := st.Expr(text)
	if err != nil {
		t.Fatalf("%s: %v", s, err)
	}
	var grow func(l []api.Expr)
	grow = func(l []api.Expr) {
		for i := range l {
			if strconv.FormatInt(l[i].N, 10) == standIn {
				l[i].N = 1 << 32
			}
			grow(l[i].L)
		}
	}
	l := []api.Expr{e}
	grow(l)
	return l[0], at
}

// statements reads a program with that body; a ^ in it tells a place.
func statements(t *testing.T, s string) (api.Prog, int) {
	t.Helper()
	text, at := marked(head() + s + " END_PROGRAM")
	p, err := st.Parse(text)
	if err != nil {
		t.Fatalf("%s: %v", s, err)
	}
	return p, at
}

// instructions reads a program with those; a | ends a line.
func instructions(t *testing.T, s string) (api.Prog, int) {
	t.Helper()
	text, at := marked(head() + "\n" + strings.ReplaceAll(s, "|", "\n") + "\nEND_PROGRAM")
	p, err := il.Parse(text)
	if err != nil {
		t.Fatalf("%s: %v", s, err)
	}
	return p, at
}

// taken: e is of that kind, and told so by both calls.
func taken(t *testing.T, p api.Prog, s string, want, kind int) {
	t.Helper()
	e, _ := expr(t, s)
	x, err := Elab(p, e, want)
	k, err2 := Kind(p, e, want)
	if err != nil || err2 != nil || k != kind || x.Kind != kind || x.At != e.At {
		t.Errorf("P16.1: %s, asked for %d: %d, %v, %+v, %v; want %d", s, want, k, err2, x, err, kind)
	}
}

// refused: e is wrong at the ^, by both calls; beside the error all is zero.
func refused(t *testing.T, p api.Prog, s string, want int, number api.Errno) {
	t.Helper()
	e, at := expr(t, s)
	x, err := Elab(p, e, want)
	k, err2 := Kind(p, e, want)
	if !wrongAt(err, at, number) || !wrongAt(err2, at, number) || k != 0 || !reflect.DeepEqual(x, api.Expr{}) {
		t.Errorf("P16.1: %s, asked for %d: %d, %v, %+v, %v; want %v at %d", s, want, k, err2, x, err, number, at)
	}
}

// P16.1: plain literals, at the ends of each range and one past them; typed ones.
func TestLiterals(t *testing.T) {
	p, _ := statements(t, "")
	text := func(n int64) string { return strconv.FormatInt(n, 10) }
	for _, k := range scalars {
		if k == api.KTime {
			continue
		}
		low, high := ranges[k][0], ranges[k][1]
		taken(t, p, text(low), k, k)
		taken(t, p, text(high), k, k)
		taken(t, p, "0", k, k)
		taken(t, p, "-0", k, k)
		refused(t, p, "^"+text(low-1), k, api.ErrConst)
		refused(t, p, "^"+text(high+1), k, api.ErrConst)
		e, _ := expr(t, "("+text(low)+")")
		if x, err := Elab(p, e, k); err != nil || !reflect.DeepEqual(x, api.Expr{Op: api.ExLit, Kind: k, N: low, At: 1}) {
			t.Errorf("P16.1: %d: %+v, %v", low, x, err)
		}
	}
	for _, want := range []int{0, api.KDint} {
		taken(t, p, "-2147483648", want, api.KDint)
		taken(t, p, "2147483647", want, api.KDint)
		refused(t, p, "^2147483648", want, api.ErrConst)
		refused(t, p, "^-2147483649", want, api.ErrConst)
	}
	for _, s := range []string{"0", "1", "-1", "4294967295"} {
		refused(t, p, "^"+s, api.KTime, api.ErrKind)
	}
	typed := []string{"", "TRUE", "SINT#-128", "INT#5", "DINT#16#7", "USINT#255", "UINT#2", "UDINT#4294967295", "BYTE#16#FF", "WORD#2#11", "DWORD#0", "T#-1s"}
	for _, k := range scalars {
		taken(t, p, typed[k], 0, k)
		for _, want := range append(slices.Clone(scalars), 12, 13, 14, 15, -1, math.MinInt, math.MaxInt) {
			if want == k {
				taken(t, p, typed[k], want, k)
			} else {
				refused(t, p, "^"+typed[k], want, api.ErrKind)
			}
		}
	}
	for _, want := range []int{12, 13, 14, 15, 99, -1, math.MinInt, math.MaxInt} {
		refused(t, p, "^5", want, api.ErrKind)
		refused(t, p, "^-5", want, api.ErrKind)
		refused(t, p, "^vINT", want, api.ErrKind)
	}
	e, _ := expr(t, "2 - -5")
	want := api.Expr{Op: api.ExSub, Kind: api.KInt, At: 2, L: []api.Expr{{Op: api.ExLit, Kind: api.KInt, N: 2}, {Op: api.ExLit, Kind: api.KInt, N: -5, At: 4}}}
	if x, err := Elab(p, e, api.KInt); err != nil || !reflect.DeepEqual(x, want) {
		t.Errorf("P16.1: %+v, %v; want %+v", x, err, want)
	}
	e, _ = expr(t, "- -5")
	want = api.Expr{Op: api.ExNeg, Kind: api.KDint, L: []api.Expr{{Op: api.ExLit, Kind: api.KDint, N: -5, At: 2}}}
	if x, err := Elab(p, e, 0); err != nil || !reflect.DeepEqual(x, want) {
		t.Errorf("P16.1: %+v, %v; want %+v", x, err, want)
	}
}

// P16.1: variables of all forms; indices of all kinds.
func TestVariables(t *testing.T) {
	p, _ := statements(t, "")
	for _, k := range scalars {
		w := words[k]
		for _, s := range []string{"v" + w, "a" + w + "[2]", "q.f" + w} {
			taken(t, p, s, 0, k)
			for _, want := range scalars {
				if want == k {
					taken(t, p, s, want, k)
				} else {
					refused(t, p, "^"+s, want, api.ErrKind)
				}
			}
		}
		refused(t, p, "^a"+w, 0, api.ErrKind)
		refused(t, p, "^v"+w+"[0]", 0, api.ErrKind)
		refused(t, p, "^v"+w+".f"+w, 0, api.ErrName)
		refused(t, p, "^a"+w+".f"+w, 0, api.ErrName)
		for _, index := range []string{"v" + w, "a" + w + "[0]", "q.f" + w} {
			if k == api.KBool || k == api.KTime {
				refused(t, p, "aINT[^"+index+"]", 0, api.ErrKind)
			} else {
				taken(t, p, "aINT["+index+"]", 0, api.KInt)
			}
		}
	}
	taken(t, p, "aBOOL[-2147483648]", api.KBool, api.KBool)
	taken(t, p, "aBOOL[aSINT[vUINT + 1] * 2]", 0, api.KBool)
	taken(t, p, "aBOOL[SINT#1]", 0, api.KBool)
	for _, s := range []string{"^z", "^z.x", "^z[1]", "^z[y]", "^q.z", "^q.FINT", "^bTON.z", "^q.IN", "^VINT", "^s", "^TON"} {
		refused(t, p, s, 0, api.ErrName)
	}
	for _, s := range []string{"^q", "^bTON", "^bTON[1]", "^q[1]", "aINT[vINT ^< 1]", "aINT[^TRUE]", "aINT[^T#1s]", "aINT[aINT[^vBOOL]]", "aINT[vBOOL ^AND vBOOL]"} {
		refused(t, p, s, 0, api.ErrKind)
	}
	refused(t, p, "aINT[^2147483648]", 0, api.ErrConst)
	refused(t, p, "aINT[^-2147483649]", 0, api.ErrConst)
	refused(t, p, "aINT[^z]", 0, api.ErrName)
	refused(t, p, "aINT[^z]", api.KBool, api.ErrName)
	refused(t, p, "^vINT[z]", 0, api.ErrKind)
	keep := api.Expr{Op: api.ExVar, Name: "bTON", Field: "1", At: 7}
	if _, err := Elab(p, keep, 0); !wrongAt(err, 7, api.ErrName) {
		t.Errorf("P16.1: what a block keeps: %v", err)
	}
	for _, name := range []string{"TON", "TOF", "TP", "CTU", "CTD", "CTUD", "R_TRIG", "F_TRIG", "SR", "RS"} {
		in, out := types.Pins(name)
		for _, pin := range append(in, out...) {
			taken(t, p, "b"+name+"."+pin, 0, types.Pin(name, pin))
		}
	}
	e, _ := expr(t, "aINT[vUINT + 1]")
	sum := api.Expr{Op: api.ExAdd, Kind: api.KUint, At: 11, L: []api.Expr{{Op: api.ExVar, Kind: api.KUint, Name: "vUINT", At: 5}, {Op: api.ExLit, Kind: api.KUint, N: 1, At: 13}}}
	want := api.Expr{Op: api.ExVar, Kind: api.KInt, Name: "aINT", L: []api.Expr{sum}}
	if x, err := Elab(p, e, 0); err != nil || !reflect.DeepEqual(x, want) {
		t.Errorf("P16.1: %+v, %v; want %+v", x, err, want)
	}
}

// P16.1: each operator with each two kinds, whatever is asked for.
func TestOperators(t *testing.T) {
	p, _ := statements(t, "")
	for _, k := range scalars {
		for _, want := range append([]int{0}, scalars...) {
			for sign, may := range map[string][]int{"-": signed, "NOT ": bits} {
				switch s := sign + "v" + words[k]; {
				case want != 0 && want != k:
					refused(t, p, sign+"^v"+words[k], want, api.ErrKind)
				case !slices.Contains(may, k):
					refused(t, p, "^"+s, want, api.ErrKind)
				default:
					taken(t, p, s, want, k)
				}
			}
		}
	}
	for sign, may := range map[string][]int{"+": amounts, "-": amounts, "*": integers, "/": integers, "MOD": integers, "AND": bits, "OR": bits, "XOR": bits} {
		for _, k := range scalars {
			for _, k2 := range scalars {
				for _, want := range []int{0, k, k%11 + 1} {
					left, right := "v"+words[k], "v"+words[k2]
					switch {
					case want != 0 && want != k:
						refused(t, p, "^"+left+" "+sign+" "+right, want, api.ErrKind)
					case k != k2:
						refused(t, p, left+" "+sign+" ^"+right, want, api.ErrKind)
					case !slices.Contains(may, k):
						refused(t, p, left+" ^"+sign+" "+right, want, api.ErrKind)
					default:
						taken(t, p, left+" "+sign+" "+right, want, k)
					}
				}
			}
		}
	}
	for _, sign := range []string{"<", ">", "<=", ">=", "=", "<>"} {
		for _, k := range scalars {
			for _, k2 := range scalars {
				for _, want := range []int{0, api.KBool, k2%11 + 1} {
					left, right := "v"+words[k], "v"+words[k2]
					switch {
					case k != k2:
						refused(t, p, left+" "+sign+" ^"+right, want, api.ErrKind)
					case want > api.KBool:
						refused(t, p, left+" ^"+sign+" "+right, want, api.ErrKind)
					default:
						taken(t, p, left+" "+sign+" "+right, want, api.KBool)
					}
				}
			}
		}
	}
}

// P16.1: what a plain literal is asked for, on each side of an operator.
func TestPlainOperands(t *testing.T) {
	p, _ := statements(t, "")
	for _, k := range integers {
		v, high := "v"+words[k], strconv.FormatInt(ranges[k][1], 10)
		past := strconv.FormatInt(ranges[k][1]+1, 10)
		for _, sign := range []string{" + ", " MOD "} {
			taken(t, p, v+sign+high, 0, k)
			taken(t, p, high+sign+v, 0, k)
			taken(t, p, high+sign+high, k, k)
			taken(t, p, v+sign+"1"+sign+"2", k, k)
			refused(t, p, v+sign+"^"+past, 0, api.ErrConst)
			refused(t, p, "^"+past+sign+v, 0, api.ErrConst)
			refused(t, p, "^"+past+sign+past, k, api.ErrConst)
			refused(t, p, high+sign+"^"+past, k, api.ErrConst)
		}
		taken(t, p, v+" < "+high, 0, api.KBool)
		taken(t, p, high+" < "+v, api.KBool, api.KBool)
		refused(t, p, "^"+past+" < "+v, 0, api.ErrConst)
		refused(t, p, v+" < ^"+past, 0, api.ErrConst)
	}
	taken(t, p, "1 = vBOOL", 0, api.KBool)
	taken(t, p, "1 < 2", 0, api.KBool)
	taken(t, p, "1 < 2", api.KBool, api.KBool)
	taken(t, p, "1 AND vBYTE", 0, api.KByte)
	taken(t, p, "1 XOR 0", api.KBool, api.KBool)
	taken(t, p, "NOT 255", api.KByte, api.KByte)
	taken(t, p, "-5 * vSINT", 0, api.KSint)
	taken(t, p, "-(5 + 3)", 0, api.KDint)
	taken(t, p, "-(5 + 3)", api.KSint, api.KSint)
	taken(t, p, "5 + 3 - vINT", api.KInt, api.KInt)
	for _, x := range []struct {
		s    string
		want int
		err  api.Errno
	}{
		{"^2 = vBOOL", 0, api.ErrConst}, {"vBOOL = ^2", 0, api.ErrConst},
		{"^5 + vTIME", 0, api.ErrKind}, {"vTIME + ^5", 0, api.ErrKind}, {"^5 < vTIME", 0, api.ErrKind}, {"^5 + 5", api.KTime, api.ErrKind}, {"^4294967296 + vTIME", 0, api.ErrKind},
		{"1 ^+ 1", api.KBool, api.ErrKind}, {"1 ^+ 1", api.KWord, api.ErrKind}, {"^NOT 5", 0, api.ErrKind}, {"1 ^AND 1", 0, api.ErrKind}, {"1 ^AND vINT", 0, api.ErrKind}, {"^-(5)", api.KUint, api.ErrConst}, {"^-(5 + 3)", api.KUint, api.ErrKind}, {"-(^70000 + 3)", api.KUint, api.ErrConst},
		{"1 + ^z", 0, api.ErrName}, {"4294967296 + ^z", 0, api.ErrName}, {"4294967296 < ^z", 0, api.ErrName}, {"^4294967296 + 5", 0, api.ErrConst}, {"^4294967296 < 5", 0, api.ErrConst}, {"1 + ^vINT", api.KDint, api.ErrKind}, {"70000 + ^vINT", api.KDint, api.ErrKind}, {"^70000 + vINT", api.KInt, api.ErrConst},
		{"5 + 3 - ^vINT", 0, api.ErrKind}, {"-5 * (^vSINT + vINT)", api.KInt, api.ErrKind}, {"-5 * (vSINT + ^vINT)", 0, api.ErrKind}, {"^-500 * (vSINT + vSINT)", 0, api.ErrConst}, {"(vINT + ^vDINT) + z", 0, api.ErrKind}, {"(vWORD ^+ vWORD) + z", 0, api.ErrKind}, {"vWORD + ^z", 0, api.ErrName}, {"NOT ^z", 0, api.ErrName}, {"^z + y", 0, api.ErrName}, {"^z < y", 0, api.ErrName}, {"vINT < ^z", api.KInt, api.ErrName},
	} {
		refused(t, p, x.s, x.want, x.err)
	}
}

// P16.1: functions, with operands of all kinds, too few and too many of them.
func TestFunctions(t *testing.T) {
	p, _ := statements(t, "")
	for _, k := range scalars {
		for _, k2 := range scalars {
			name := words[k] + "_TO_" + words[k2]
			if !Function(name) {
				t.Errorf("P16.1: Function(%s)", name)
			}
			taken(t, p, name+"(v"+words[k]+")", 0, k2)
			taken(t, p, name+"(v"+words[k]+")", k2, k2)
			refused(t, p, "^"+name+"(v"+words[k]+")", k2%11+1, api.ErrKind)
			refused(t, p, name+"(^v"+words[k%11+1]+")", 0, api.ErrKind)
			refused(t, p, "^"+name+"(v"+words[k]+", 1)", 0, api.ErrCall)
			if k == api.KTime {
				refused(t, p, name+"(^1)", 0, api.ErrKind)
			} else {
				taken(t, p, name+"("+strconv.FormatInt(ranges[k][1], 10)+")", 0, k2)
				refused(t, p, name+"(^"+strconv.FormatInt(ranges[k][1]+1, 10)+")", 0, api.ErrConst)
			}
		}
	}
	for _, x := range []struct {
		name string
		many int
		may  []int
	}{
		{"ABS", 1, signed}, {"MIN", 2, amounts}, {"MAX", 2, amounts}, {"LIMIT", 3, amounts},
	} {
		for _, k := range scalars {
			for _, want := range append([]int{0}, scalars...) {
				v := "v" + words[k]
				more := strings.Repeat(", "+v, x.many-1)
				switch {
				case want != 0 && want != k || !slices.Contains(x.may, k):
					refused(t, p, x.name+"(^"+v+strings.Repeat(", z", x.many-1)+")", want, api.ErrKind)
				default:
					taken(t, p, x.name+"("+v+more+")", want, k)
					for i := 1; i < x.many; i++ {
						refused(t, p, x.name+"("+v+strings.Repeat(", "+v, i-1)+", ^v"+words[k%11+1]+strings.Repeat(", z", x.many-1-i)+")", want, api.ErrKind)
						refused(t, p, x.name+"("+v+strings.Repeat(", "+v, i-1)+", ^4294967296"+strings.Repeat(", z", x.many-1-i)+")", want, map[bool]api.Errno{true: api.ErrKind, false: api.ErrConst}[k == api.KTime])
					}
				}
			}
		}
	}
	for _, k := range scalars {
		v, other := "v"+words[k], "v"+words[k%11+1]
		taken(t, p, "SEL(vBOOL, "+v+", "+v+")", 0, k)
		taken(t, p, "SEL(1, "+v+", "+v+")", k, k)
		refused(t, p, "SEL(TRUE, ^"+v+", z)", k%11+1, api.ErrKind)
		refused(t, p, "SEL(TRUE, "+v+", ^"+other+")", 0, api.ErrKind)
		if k != api.KBool {
			refused(t, p, "SEL(^"+v+", z, z)", 0, api.ErrKind)
		}
		for _, name := range []string{"SHL", "SHR", "ROL", "ROR"} {
			if !slices.Contains(moved, k) {
				refused(t, p, name+"(^"+v+", z)", 0, api.ErrKind)
				refused(t, p, name+"(^"+v+", z)", k, api.ErrKind)
				continue
			}
			taken(t, p, name+"("+v+", vUINT)", 0, k)
			taken(t, p, name+"(5, 65535)", k, k)
			refused(t, p, name+"(^"+v+", z)", k%11+1, api.ErrKind)
			refused(t, p, name+"("+v+", ^65536)", 0, api.ErrConst)
			for _, k2 := range scalars {
				if k2 != api.KUint {
					refused(t, p, name+"("+v+", ^v"+words[k2]+")", 0, api.ErrKind)
				}
			}
		}
	}
	for _, s := range []string{"^FOO(1)", "^ABS(1, 2)", "^MIN(1)", "^MIN(1, 2, 3)", "^MAX(1)", "^MAX(1, 2, 3)", "^LIMIT(1, 2)", "^LIMIT(1, 2, 3, 4)", "^SEL(TRUE, 1)", "^SEL(TRUE, 1, 2, 3)", "^SHL(vWORD)", "^SHR(vWORD, 1, 1)", "^ROL(vWORD)", "^ROR(vWORD, 1, 1)", "^abs(1)", "^TON(1)", "^vINT(1)", "^FOO(z)", "^ABS(z, 1)", "^INT_TO_(1)", "^INT_TO_FOO(1)", "^FOO_TO_INT(1)", "^INT_TO_INT_TO_INT(1)", "^ABS_TO_INT(1)", "^int_TO_INT(1)", "^INT_to_INT(1)", "^INTTOINT(1)"} {
		refused(t, p, s, 0, api.ErrCall)
	}
	for _, x := range []struct {
		s    string
		want int
		err  api.Errno
	}{
		{"MAX(5, ^vINT)", 0, api.ErrKind}, {"SEL(vBOOL, 5, ^vINT)", 0, api.ErrKind}, {"SEL(^2, 5, 5)", 0, api.ErrConst}, {"ABS(^-32769)", api.KInt, api.ErrConst}, {"ABS(^5)", api.KUint, api.ErrKind}, {"MIN(^1, 1)", api.KBool, api.ErrKind}, {"MAX(^z, y)", 0, api.ErrName}, {"LIMIT(1, ^z, y)", 0, api.ErrName}, {"LIMIT(1, 2, ^y)", 0, api.ErrName}, {"SEL(^z, y, y)", 0, api.ErrName}, {"SHL(^5, 1)", 0, api.ErrKind}, {"ABS(^FOO_TO_INT(1))", 0, api.ErrCall},
	} {
		refused(t, p, x.s, x.want, x.err)
	}
	taken(t, p, "MAX(5, vINT)", api.KInt, api.KInt)
	taken(t, p, "ABS(-32768)", api.KInt, api.KInt)
	taken(t, p, "MIN(ABS(vINT), INT_TO_INT(vINT))", 0, api.KInt)
	for _, name := range []string{"", "_TO_", "INT_TO_", "_TO_INT", "INT", "TO", "abs", "Abs", "ABS ", " ABS", "ABSS", "AB", "MINMAX", "MUX", "SQRT", "MOVE", "TRUNC", "TON", "NOT", "MOD", "ARRAY_TO_INT", "INT_TO_INT_", "INT_TO_INT_TO_INT", "\xff", strings.Repeat("_TO_", 99)} {
		if Function(name) {
			t.Errorf("P16.1: Function(%q)", name)
		}
	}
	for _, name := range []string{"ABS", "MIN", "MAX", "LIMIT", "SEL", "SHL", "SHR", "ROL", "ROR"} {
		if !Function(name) {
			t.Errorf("P16.1: Function(%q)", name)
		}
	}
	e, _ := expr(t, "SEL(1, MIN(5, vINT), ROR(vWORD, 3))")
	if _, err := Elab(p, e, 0); !wrongAt(err, 14, api.ErrKind) {
		t.Errorf("P16.1: %v", err)
	}
	e, _ = expr(t, "SEL(1, MAX(vINT, -5), 7)")
	lit := func(kind int, n int64, at int) api.Expr {
		return api.Expr{Op: api.ExLit, Kind: kind, N: n, At: at}
	}
	greater := api.Expr{Op: api.ExCall, Kind: api.KInt, Name: "MAX", At: 7, L: []api.Expr{{Op: api.ExVar, Kind: api.KInt, Name: "vINT", At: 11}, lit(api.KInt, -5, 17)}}
	want := api.Expr{Op: api.ExCall, Kind: api.KInt, Name: "SEL", L: []api.Expr{lit(api.KBool, 1, 4), greater, lit(api.KInt, 7, 22)}}
	if x, err := Elab(p, e, 0); err != nil || !reflect.DeepEqual(x, want) {
		t.Errorf("P16.1: %+v, %v; want %+v", x, err, want)
	}
}

// P16.1, P16.2: declarations that are wrong are told by types.Check's error.
func TestDeclarations(t *testing.T) {
	p, _ := statements(t, "^z := 1;")
	e, _ := expr(t, "z")
	p.Vars = append(slices.Clone(p.Vars), p.Vars[3])
	for _, isIl := range []bool{false, true} {
		p.Il = isIl
		p.Code = []api.Inst{{Op: "FOO", At: 3}}
		k, err := Kind(p, e, 0)
		x, err2 := Elab(p, e, 0)
		for _, err := range []error{Check(p), err, err2} {
			if !wrongAt(err, p.Vars[3].At, api.ErrTwice) {
				t.Errorf("P16.2: %v", err)
			}
		}
		if k != 0 || !reflect.DeepEqual(x, api.Expr{}) {
			t.Errorf("P16.1: %d, %+v", k, x)
		}
	}
}
