package ilsem_test

import (
	"fmt"
	"math"
	"slices"
	"strings"
	"testing"
	"time"

	"rung/api"
	"rung/il"
	"rung/ilsem"
	"rung/st"
)

// words: the scalars, each at its kind's number.
var words = []string{"", "BOOL", "SINT", "INT", "DINT", "USINT", "UINT", "UDINT", "BYTE", "WORD", "DWORD", "TIME"}

var ranges = [][2]int64{{}, {0, 1}, {-128, 127}, {-32768, 32767}, {-2147483648, 2147483647}, {0, 255}, {0, 65535}, {0, 4294967295}, {0, 255}, {0, 65535}, {0, 4294967295}, {-2147483648, 2147483647}}

// head: of a program that has a struct pair, its variables not yet.
const head = "TYPE pair : STRUCT x : INT := 4; f : BOOL; END_STRUCT; END_TYPE PROGRAM p VAR "

// listing tells a program's text; code: its lines, with strokes between.
func listing(vars, code string) string {
	return head + vars + " END_VAR\n" + strings.ReplaceAll(code, "|", "\n") + "\nEND_PROGRAM"
}

func program(t *testing.T, vars, code string) api.Prog {
	t.Helper()
	p, err := il.Parse(listing(vars, code))
	if err != nil {
		t.Fatalf("%.500s: %v", code, err)
	}
	return p
}

// life: a program's lines, the cells ahead of a scan; those behind it, its fault,
// steps.
type life struct {
	code         string
	cells, want  []int64
	fault, steps int
}

// scans does each of them over these variables.
func scans(t *testing.T, vars string, l []life) {
	t.Helper()
	for _, x := range l {
		cells, fault, steps := ilsem.Scan(program(t, vars, x.code), x.cells, 0, 99)
		if !slices.Equal(cells, x.want) || fault != x.fault || steps != x.steps {
			t.Errorf("P19.1: %s: %v, %d, %d; want %v, %d, %d", x.code, cells, fault, steps, x.want, x.fault, x.steps)
		}
	}
}

// P19.1: the chapter's example, and of each operator what it makes of an INT, a
// BYTE, a BOOL, a TIME.
func TestOperators(t *testing.T) {
	scans(t, "x : DINT;", []life{{"LD 2|MUL( 3|ADD 4|)|ST x", nil, []int64{14}, 0, 5}})
	for _, x := range []struct {
		kind, op string
		a, b     int64
		want     int64
		fault    int
	}{
		{"INT", "ADD", 30000, 30000, -5536, 0}, {"INT", "ADD", -7, 3, -4, 0},
		{"INT", "SUB", -32768, 1, 32767, 0}, {"INT", "SUB", 3, 10, -7, 0},
		{"INT", "MUL", 300, 300, 24464, 0}, {"INT", "MUL", -7, 3, -21, 0},
		{"INT", "DIV", -7, 2, -3, 0}, {"INT", "DIV", 7, -2, -3, 0}, {"INT", "DIV", 2, 7, 0, 0}, {"INT", "DIV", -32768, -1, -32768, 0}, {"INT", "DIV", 1, 0, 0, api.FaultZero}, {"INT", "DIV", 0, 0, 0, api.FaultZero},
		{"INT", "MOD", -7, 2, -1, 0}, {"INT", "MOD", 7, -2, 1, 0}, {"INT", "MOD", 2, 7, 2, 0}, {"INT", "MOD", -32768, -1, 0, 0}, {"INT", "MOD", 1, 0, 0, api.FaultZero},
		{"INT", "GT", 1, 2, 0, 0}, {"INT", "GT", 2, 2, 0, 0}, {"INT", "GT", 3, 2, 1, 0}, {"INT", "GT", 1, -1, 1, 0},
		{"INT", "GE", 1, 2, 0, 0}, {"INT", "GE", 2, 2, 1, 0}, {"INT", "GE", 3, 2, 1, 0},
		{"INT", "EQ", 1, 2, 0, 0}, {"INT", "EQ", 2, 2, 1, 0}, {"INT", "EQ", 3, 2, 0, 0},
		{"INT", "NE", 1, 2, 1, 0}, {"INT", "NE", 2, 2, 0, 0}, {"INT", "NE", 3, 2, 1, 0},
		{"INT", "LE", 1, 2, 1, 0}, {"INT", "LE", 2, 2, 1, 0}, {"INT", "LE", 3, 2, 0, 0},
		{"INT", "LT", 1, 2, 1, 0}, {"INT", "LT", 2, 2, 0, 0}, {"INT", "LT", 3, 2, 0, 0}, {"INT", "LT", -1, 1, 1, 0},
		{"UDINT", "ADD", 4294967295, 2, 1, 0}, {"UDINT", "SUB", 0, 1, 4294967295, 0}, {"UDINT", "GT", 4294967295, 1, 1, 0}, {"UDINT", "DIV", 4294967295, 2, 2147483647, 0},
		{"TIME", "ADD", 2147483647, 1, -2147483648, 0}, {"TIME", "SUB", -1500, 500, -2000, 0}, {"TIME", "LT", -1500, 0, 1, 0},
		{"BYTE", "AND", 0x3C, 0x0F, 0x0C, 0}, {"BYTE", "OR", 0x3C, 0x0F, 0x3F, 0}, {"BYTE", "XOR", 0x3C, 0x0F, 0x33, 0},
		{"BYTE", "ANDN", 0x3C, 0x0F, 0x30, 0}, {"BYTE", "ORN", 0x3C, 0x0F, 0xFC, 0}, {"BYTE", "XORN", 0x3C, 0x0F, 0xCC, 0}, {"BYTE", "GT", 0xFF, 1, 1, 0},
		{"DWORD", "ANDN", 4294967295, 1, 4294967294, 0}, {"WORD", "XORN", 0, 0, 65535, 0}, {"WORD", "ORN", 1, 65534, 1, 0},
		{"BOOL", "AND", 0, 0, 0, 0}, {"BOOL", "AND", 0, 1, 0, 0}, {"BOOL", "AND", 1, 0, 0, 0}, {"BOOL", "AND", 1, 1, 1, 0},
		{"BOOL", "ANDN", 0, 0, 0, 0}, {"BOOL", "ANDN", 0, 1, 0, 0}, {"BOOL", "ANDN", 1, 0, 1, 0}, {"BOOL", "ANDN", 1, 1, 0, 0},
		{"BOOL", "OR", 0, 0, 0, 0}, {"BOOL", "OR", 0, 1, 1, 0}, {"BOOL", "OR", 1, 0, 1, 0}, {"BOOL", "OR", 1, 1, 1, 0},
		{"BOOL", "ORN", 0, 0, 1, 0}, {"BOOL", "ORN", 0, 1, 0, 0}, {"BOOL", "ORN", 1, 0, 1, 0}, {"BOOL", "ORN", 1, 1, 1, 0},
		{"BOOL", "XOR", 0, 0, 0, 0}, {"BOOL", "XOR", 0, 1, 1, 0}, {"BOOL", "XOR", 1, 0, 1, 0}, {"BOOL", "XOR", 1, 1, 0, 0},
		{"BOOL", "XORN", 0, 0, 1, 0}, {"BOOL", "XORN", 0, 1, 0, 0}, {"BOOL", "XORN", 1, 0, 0, 0}, {"BOOL", "XORN", 1, 1, 1, 0},
		{"BOOL", "GT", 1, 0, 1, 0}, {"BOOL", "NE", 1, 1, 0, 0},
	} {
		every(t, x.kind, x.op, [2]int64{x.a, x.b}, x.want, x.fault)
	}
}

// every does an operation in each form: with a variable, a typed literal, a plain
// one, and with brackets around its operand, ahead of it or behind the bracket.
func every(t *testing.T, kind, op string, numbers [2]int64, want int64, fault int) {
	t.Helper()
	result := kind
	if slices.Contains([]string{"GT", "GE", "EQ", "NE", "LE", "LT"}, op) {
		result = "BOOL"
	}
	typed := fmt.Sprintf("%s#%d", kind, numbers[1])
	if kind == "TIME" {
		typed = fmt.Sprintf("T#%dms", numbers[1])
	}
	forms := []string{"LD a|! b|ST r", "LD a|! " + typed + "|ST r", "LD a|!( b|)|ST r", "LD a|!(|LD b|)|ST r", "LD a|!( " + typed + "|)|ST r", "LD a|!( a|LD b|)|ST r"}
	if kind != "TIME" {
		forms = append(forms, fmt.Sprintf("LD a|! %d|ST r", numbers[1]))
	}
	for _, form := range forms {
		code := strings.ReplaceAll(form, "!", op)
		vars := "a : " + kind + "; b : " + kind + "; r : " + result + ";"
		steps := strings.Count(code, "|") + 1
		if fault != api.FaultNone {
			steps--
		}
		cells, f, n := ilsem.Scan(program(t, vars, code), numbers[:], 0, 9)
		if !slices.Equal(cells, []int64{numbers[0], numbers[1], want}) || f != fault || n != steps {
			t.Errorf("P19.1: %s of %s: %v, %d, %d; want %v, %d, %d", code, kind, cells, f, n, want, fault, steps)
		}
	}
}

// P19.1: LD, LDN, ST, STN and NOT of each kind that has them; the accumulator
// stays behind what stores it.
func TestLoads(t *testing.T) {
	for kind, word := range words {
		if kind == 0 {
			continue
		}
		low, high := ranges[kind][0], ranges[kind][1]
		vars := "a : " + word + "; b : " + word + "; c : " + word + "; d : " + word + ";"
		bits := kind == api.KBool || kind == api.KByte || kind == api.KWord || kind == api.KDword
		for _, n := range []int64{low, high, 0, 1, high / 2, high - 1, low + 1} {
			not := high - n
			lives := []life{{"LD a|ST b|ST c|LD b|ST d", []int64{n}, []int64{n, n, n, n}, 0, 5}}
			if bits {
				lives = append(lives,
					life{"LDN a|ST b|NOT|ST c|NOT|STN d", []int64{n}, []int64{n, not, n, n}, 0, 6},
					life{"LD a|STN b|STN c|ST d", []int64{n}, []int64{n, not, not, n}, 0, 4},
					life{"LDN a|STN b|NOT|STN a", []int64{n}, []int64{not, n, 0, 0}, 0, 4},
				)
			}
			scans(t, vars, lives)
		}
	}
	scans(t, "x : DINT; b : BOOL; t : TIME; w : WORD;", []life{
		{"LD 5|ST x", nil, []int64{5, 0, 0, 0}, 0, 2},
		{"LD -5|ST x", nil, []int64{-5, 0, 0, 0}, 0, 2},
		{"LD -2147483648|ST x", nil, []int64{-2147483648, 0, 0, 0}, 0, 2},
		{"LD TRUE|ST b|LDN TRUE|ST b", nil, []int64{0, 0, 0, 0}, 0, 4},
		{"LDN FALSE|ST b", nil, []int64{0, 1, 0, 0}, 0, 2},
		{"LD T#-1m|ST t", nil, []int64{0, 0, -60000, 0}, 0, 2},
		{"LDN WORD#16#1|ST w", nil, []int64{0, 0, 0, 65534}, 0, 2},
		{"LD 1|LD 2|ST x", nil, []int64{2, 0, 0, 0}, 0, 3},
	})
}

// P19.1: fields, pins, elements and what lies in the image, loaded and stored.
func TestPlaces(t *testing.T) {
	scans(t, "q : pair; r : pair; ix AT %IX0.0 : BOOL; qx AT %QX0.0 : BOOL; iw AT %IW0 : INT; mw AT %MW0 : INT; c : CTU;", []life{
		{"LD q.x|ADD 1|ST r.x|LDN q.f|ST r.f", []int64{7, 0, 9}, []int64{7, 0, 8, 1, 0, 0, 0, 0, 0, 0, 0, 0, 0, 0, 0, 0}, 0, 5},
		{"LD ix|ST qx|LD iw|SUB 1|ST mw", []int64{0, 0, 0, 0, 1, 0, 9}, []int64{0, 0, 0, 0, 1, 1, 9, 8, 0, 0, 0, 0, 0, 0, 0, 0}, 0, 5},
		{"LD c.CV|ADD c.PV|ST mw|LD c.Q|OR c.CU|ST qx|R r.f|S q.f", []int64{0, 0, 0, 1, 0, 0, 0, 0, 1, 0, 30, 0, 40}, []int64{0, 1, 0, 0, 0, 1, 0, 70, 1, 0, 30, 0, 40, 0, 0, 0}, 0, 8},
	})
	scans(t, "a : ARRAY[-1..1] OF INT; i : INT; u : UDINT;", []life{
		{"LD a[-1]|ADD a[i]|ST a[1]", []int64{5, 6, 0, 0}, []int64{5, 6, 11, 0, 0}, 0, 3},
		{"LD INT#5|ST a[i]", []int64{0, 0, 0, -1}, []int64{5, 0, 0, -1, 0}, 0, 2},
		{"LD INT#5|ST a[i]", []int64{0, 0, 0, 1}, []int64{0, 0, 5, 1, 0}, 0, 2},
		{"LD INT#5|ST a[i + 1]", []int64{0, 0, 0, 0}, []int64{0, 0, 5, 0, 0}, 0, 2},
		{"LD INT#5|ST a[i - 1]", []int64{0, 0, 0, 2}, []int64{0, 0, 5, 2, 0}, 0, 2},
		{"LD INT#5|ST a[-2]", nil, []int64{0, 0, 0, 0, 0}, api.FaultIndex, 2},
		{"LD INT#5|ST a[2]", nil, []int64{0, 0, 0, 0, 0}, api.FaultIndex, 2},
		{"LD a[2]|ST i", nil, []int64{0, 0, 0, 0, 0}, api.FaultIndex, 1},
		{"LD a[-2]|ST i", nil, []int64{0, 0, 0, 0, 0}, api.FaultIndex, 1},
		{"LD a[u]|ST i", []int64{5, 6, 7, 8, 4294967295}, []int64{5, 6, 7, 8, 4294967295}, api.FaultIndex, 1},
		{"LD a[a[a[0]]]|ST i", []int64{3, -1, 0, 7}, []int64{3, -1, 0, 7, 0}, api.FaultIndex, 1},
		{"LD a[a[a[0]]]|ST i", []int64{1, -1, 9, 7}, []int64{1, -1, 9, 9, 0}, 0, 2},
		{"LD a[MIN(i, 1) * 2 - LIMIT(INT#1, i, 3)]|ST i", []int64{5, 6, 7, 2}, []int64{5, 6, 7, 6, 0}, 0, 2},
	})
}

// P19.1: an index may name several fields, pins and elements.
func TestIndices(t *testing.T) {
	scans(t, "q : pair; r : pair; a : ARRAY[0..3] OF DINT; c : CTU;", []life{
		{"LD a[q.x + q.x]|ST a[q.x]", []int64{1, 0, 0, 0, 5, 6, 7, 8}, []int64{1, 0, 0, 0, 5, 7, 7, 8, 0, 0, 0, 0, 0, 0, 0, 0}, 0, 2},
		{"LD 9|ST a[SEL(q.f OR r.f, q.x, r.x)]", []int64{1, 0, 2, 0}, []int64{1, 0, 2, 0, 0, 9, 0, 0, 0, 0, 0, 0, 0, 0, 0, 0}, 0, 2},
		{"LD 9|ST a[SEL(q.f OR r.f, q.x, r.x)]", []int64{1, 0, 2, 1}, []int64{1, 0, 2, 1, 0, 0, 9, 0, 0, 0, 0, 0, 0, 0, 0, 0}, 0, 2},
		{"LD a[c.CV - c.PV]|ST a[a[1] + a[1]]", []int64{0, 0, 0, 0, 4, 1, 0, 0, 0, 0, 30, 0, 30}, []int64{0, 0, 0, 0, 4, 1, 4, 0, 0, 0, 30, 0, 30, 0, 0, 0}, 0, 2},
	})
}

// P19.1: S and R change their target if the accumulator isn't 0; their target's
// index is reckoned anyhow.
func TestSets(t *testing.T) {
	vars := "b : BOOL; x : BOOL; a : ARRAY[1..2] OF BOOL; i : INT; z : INT;"
	var l []life
	for _, b := range []int64{0, 1} {
		for _, x := range []int64{0, 1} {
			l = append(l,
				life{"LD b|S x", []int64{b, x}, []int64{b, x | b, 0, 0, 0, 0}, 0, 2},
				life{"LD b|R x", []int64{b, x}, []int64{b, x &^ b, 0, 0, 0, 0}, 0, 2},
				life{"LD b|S a[i]", []int64{b, 0, x, x, 2}, []int64{b, 0, x, x | b, 2, 0}, 0, 2},
				life{"LD b|R a[i]", []int64{b, 0, x, x, 1}, []int64{b, 0, x &^ b, x, 1, 0}, 0, 2},
				life{"LD b|S x|ST a[1]|R x|ST a[2]", []int64{b, x}, []int64{b, x &^ b, b, b, 0, 0}, 0, 5},
			)
		}
		for _, op := range []string{"S", "R", "ST", "STN"} {
			l = append(l,
				life{"LD b|" + op + " a[i]|LD TRUE|ST x", []int64{b}, []int64{b, 0, 0, 0, 0, 0}, api.FaultIndex, 2},
				life{"LD b|" + op + " a[i]|LD TRUE|ST x", []int64{b, 0, 1, 1, 3}, []int64{b, 0, 1, 1, 3, 0}, api.FaultIndex, 2},
				life{"LD b|" + op + " a[1 / z]|LD TRUE|ST x", []int64{b, 0, 1, 1, 1}, []int64{b, 0, 1, 1, 1, 0}, api.FaultZero, 2},
			)
		}
	}
	scans(t, vars, l)
}

// P19.1: what stands in brackets is reckoned on its own, and the operation is
// done at the other end.
func TestBrackets(t *testing.T) {
	scans(t, "x : DINT; y : DINT; b : BOOL; c : BOOL; z : DINT;", []life{
		{"LD 2|MUL(|LD 3|ADD 4|)|ST x", nil, []int64{14, 0, 0, 0, 0}, 0, 6},
		{"LD 100|SUB( 10|SUB( 5|SUB( 3|SUB 1|)|)|)|ST x", nil, []int64{100 - (10 - (5 - (3 - 1))), 0, 0, 0, 0}, 0, 9},
		{"LD 100|DIV( 7|MUL( 2|ADD( 3|SUB 2|)|)|SUB 1|)|ST x", nil, []int64{5, 0, 0, 0, 0}, 0, 10},
		{"LD 9|SUB( 4|)|SUB( 3|)|ST x", nil, []int64{2, 0, 0, 0, 0}, 0, 6},
		{"LD 1|ADD( x|ST y|LD 7|ST x|)|ST z", []int64{5}, []int64{7, 5, 0, 0, 8}, 0, 7},
		{"LD x|ADD(|LD 7|ST x|)|ST y", []int64{5}, []int64{7, 12, 0, 0, 0}, 0, 6},
		{"LD x|GT( 3|ADD 1|)|ST b", []int64{5}, []int64{5, 0, 1, 0, 0}, 0, 5},
		{"LD x|GT( 3|ADD 2|)|ST b", []int64{5}, []int64{5, 0, 0, 0, 0}, 0, 5},
		{"LD b|AND(|LD x|GT 3|)|ST c", []int64{5, 0, 1}, []int64{5, 0, 1, 1, 0}, 0, 6},
		{"LD b|AND( c|OR(|LD x|LT( 2|MUL 3|)|)|)|ST c", []int64{5, 0, 1}, []int64{5, 0, 1, 1, 0}, 0, 10},
		{"LD b|ORN( c|S b|NOT|)|ST c", []int64{0, 0, 0, 1}, []int64{0, 0, 1, 1, 0}, 0, 6},
		{"LD b|XORN( c|AND b|)|ST c", []int64{0, 0, 1, 1}, []int64{0, 0, 1, 1, 0}, 0, 5},
		{"LD b|ANDN(|LDN c|)|ST c|STN b", []int64{0, 0, 1, 1}, []int64{0, 0, 0, 1, 0}, 0, 6},
		{"LD 1|ADD( 2|GT 1|ST b|LD 4|)|ST x", nil, []int64{5, 0, 1, 0, 0}, 0, 7},

		{"LD 7|DIV( 2|SUB 2|)|ST x", nil, []int64{0, 0, 0, 0, 0}, api.FaultZero, 4},
		{"LD 7|MOD( z|)|ST x", nil, []int64{0, 0, 0, 0, 0}, api.FaultZero, 3},
		{"LD 7|ADD( 1|DIV z|)|ST x", nil, []int64{0, 0, 0, 0, 0}, api.FaultZero, 3},
		{"LD 7|ADD( 1|ST y|DIV z|ST x|)|ST x", nil, []int64{0, 1, 0, 0, 0}, api.FaultZero, 4},
	})
	// What stands in brackets may begin with another kind.
	scans(t, "x : INT; b : BOOL; t : TIME; u : UDINT; w : WORD;", []life{
		{"LD b|AND( x|GT 3|)|ST b", []int64{4, 1}, []int64{4, 1, 0, 0, 0}, 0, 5},
		{"LD b|AND( x|GT 3|)|ST b", []int64{3, 1}, []int64{3, 0, 0, 0, 0}, 0, 5},
		{"LD b|XORN( u|MUL 2|EQ 0|)|STN b", []int64{0, 1, 0, 1 << 31}, []int64{0, 0, 0, 1 << 31, 0}, 0, 6},
		{"LD b|OR( t|ADD T#1s|LT T#0s|)|ST b", []int64{0, 0, -1001}, []int64{0, 1, -1001, 0, 0}, 0, 6},
		{"LD b|OR( 5|GT( x|LD 4|)|)|ST b", []int64{0, 0}, []int64{0, 1, 0, 0, 0}, 0, 7},
		{"LD w|ORN( b|S b|LDN w|)|ST w", []int64{0, 1, 0, 0, 5}, []int64{0, 1, 0, 0, 5}, 0, 6},
		{"LD x|GE( b|LD x|SUB 1|)|ST b", []int64{-32768, 1}, []int64{-32768, 0, 0, 0, 0}, 0, 6},
	})
	scans(t, "a : ARRAY[0..1] OF DINT; z : DINT; u : USINT; b : BYTE;", []life{
		{"LD 7|ADD( a[2]|ST a[0]|)|ST a[0]", nil, []int64{0, 0, 0, 0, 0}, api.FaultIndex, 2},
		{"LD 7|ADD( a[1 / z]|ST a[0]|)|ST a[0]", nil, []int64{0, 0, 0, 0, 0}, api.FaultZero, 2},
		{"LD 7|ADD a[2]|ST a[0]", nil, []int64{0, 0, 0, 0, 0}, api.FaultIndex, 2},
		{"LD a[1]|ADD( a[0]|MUL a[1]|)|ST a[z + 1]", []int64{3, 4}, []int64{3, 16, 0, 0, 0}, 0, 5},
		{"LD u|ADD( USINT#200|ADD 100|)|ST u", []int64{0, 0, 0, 250}, []int64{0, 0, 0, 38, 0}, 0, 5},
		{"LD b|ANDN( b|XOR 16#FF|)|ST b", []int64{0, 0, 0, 0, 0x5A}, []int64{0, 0, 0, 0, 0x5A}, 0, 5},
	})
}

// P19.1: jumps, by the accumulator or anyhow; a label alone is no step.
func TestJumps(t *testing.T) {
	var l []life
	for _, x := range []struct {
		op    string
		b     int64
		jumps bool
	}{{"JMP", 0, true}, {"JMP", 1, true}, {"JMPC", 0, false}, {"JMPC", 1, true}, {"JMPCN", 0, true}, {"JMPCN", 1, false}} {
		want, steps := []int64{x.b, 1, 0}, 4
		if x.jumps {
			want, steps = []int64{x.b, 0, 0}, 2
		}
		l = append(l,
			life{"LD b|" + x.op + " on|LD 1|ST x|on:", []int64{x.b}, want, 0, steps},
			life{"LD b|" + x.op + " on|LD 1|ST x|other:|on:", []int64{x.b}, want, 0, steps},
			life{"LD b|" + x.op + " on|LD 1|ST x|on: LD 5|ST y", []int64{x.b}, []int64{x.b, want[1], 5}, 0, steps + 2},
			life{"LD b|" + x.op + " on|LD 1|ST x|on:|more: LD 5|ST y", []int64{x.b}, []int64{x.b, want[1], 5}, 0, steps + 2},
		)
		if x.op != "JMP" {
			// The accumulator stays where it doesn't jump.
			kept, steps := []int64{x.b, 0, 0}, 2
			if !x.jumps {
				kept[0], steps = 1-x.b, 3
			}
			l = append(l, life{"LD b|" + x.op + " on|STN b|on:", []int64{x.b}, kept, 0, steps})
		}
	}
	l = append(l,
		life{"JMP a|c: LD x|ADD 1|ST x|JMP e|b: LD x|MUL 10|ST x|JMP c|a: LD 7|ST x|JMP b|e:", nil, []int64{0, 71, 0}, 0, 12},
		life{"JMP a|a: LD 1|ST x", nil, []int64{0, 1, 0}, 0, 3},
		life{"a:|b:|c:", nil, []int64{0, 0, 0}, 0, 0},
		life{"a: LD x|ADD 1|ST x|LT 5|JMPC a|LD x|ST y", nil, []int64{0, 5, 5}, 0, 27},
		life{"a:|LD x|ADD 1|ST x|GE 3|JMPCN a|LD b|JMPC e|LD 9|ST y|e:", nil, []int64{0, 3, 9}, 0, 19},
	)
	scans(t, "b : BOOL; x : DINT; y : DINT;", l)
}

// P19.1: returns, by the accumulator or anyhow: the scan's end, and no fault.
func TestReturns(t *testing.T) {
	scans(t, "b : BOOL; x : DINT;", []life{
		{"LD 1|ST x|RET|LD 2|ST x", nil, []int64{0, 1}, 0, 3},
		{"RET", nil, []int64{0, 0}, 0, 1},
		{"LD b|RETC|LD 2|ST x", []int64{1}, []int64{1, 0}, 0, 2},
		{"LD b|RETC|LD 2|ST x", []int64{0}, []int64{0, 2}, 0, 4},
		{"LD b|RETCN|LD 2|ST x", []int64{1}, []int64{1, 2}, 0, 4},
		{"LD b|RETCN|LD 2|ST x", []int64{0}, []int64{0, 0}, 0, 2},
		{"LD b|RETC|STN b|RETC|RETCN|ST b", []int64{0}, []int64{1, 0}, 0, 5},
		{"a: LD x|ADD 1|ST x|GE 4|RETC|JMP a", nil, []int64{0, 4}, 0, 23},
		{"RET|LD 1|DIV 0|ST x", nil, []int64{0, 0}, 0, 1},
	})
}

// P19.1: each instruction that is begun is a step, with none that may be done,
// one, and so on; what was done stays.
func TestSteps(t *testing.T) {
	for _, x := range []struct {
		code string
		want [][]int64 // the cells behind no step, one step, and so on, to all
	}{
		{"", [][]int64{{0, 0}}},
		{"a:", [][]int64{{0, 0}}},
		{"LD 1|ST x|ADD 1|ST y", [][]int64{{0, 0}, {0, 0}, {1, 0}, {1, 0}, {1, 2}}},
		{"a:|LD 1|b:|c: LD 1|ST x|d:", [][]int64{{0, 0}, {0, 0}, {0, 0}, {1, 0}}},
		{"LD 2|MUL( 3|ST x|ADD(|LD 4|ST y|)|ST x|)|ST y", [][]int64{{0, 0}, {0, 0}, {0, 0}, {3, 0}, {3, 0}, {3, 0}, {3, 4}, {3, 4}, {7, 4}, {7, 4}, {7, 14}}},
		{"JMP a|LD 1|ST x|a: LD 2|ST y", [][]int64{{0, 0}, {0, 0}, {0, 0}, {0, 2}}},
		{"LD TRUE|JMPCN a|LD 1|ST x|a:", [][]int64{{0, 0}, {0, 0}, {0, 0}, {0, 0}, {1, 0}}},
		{"LD 1|ST x|RET|ST y", [][]int64{{0, 0}, {0, 0}, {1, 0}, {1, 0}}},
		{"LD 1|ST x|GT 1|RETC|LD 2|ST y", [][]int64{{0, 0}, {0, 0}, {1, 0}, {1, 0}, {1, 0}, {1, 0}, {1, 2}}},
		{"a: LD x|ADD 1|ST x|LT 2|JMPC a|LD 5|ST y", [][]int64{{0, 0}, {0, 0}, {0, 0}, {1, 0}, {1, 0}, {1, 0}, {1, 0}, {1, 0}, {2, 0}, {2, 0}, {2, 0}, {2, 0}, {2, 5}}},
	} {
		p, all := program(t, "x : DINT; y : DINT;", x.code), len(x.want)-1
		for most := range all + 3 {
			done, fault := min(most, all), api.FaultNone
			if most < all {
				fault = api.FaultSteps
			}
			if cells, f, n := ilsem.Scan(p, nil, 0, most); !slices.Equal(cells, x.want[done]) || f != fault || n != done {
				t.Errorf("P19.1: %s, %d steps: %v, %d, %d; want %v", x.code, most, cells, f, n, x.want[done])
			}
		}
		for _, most := range []int{-1, -7, math.MinInt} {
			none, nothing, _ := ilsem.Scan(p, nil, 0, 0)
			if cells, f, n := ilsem.Scan(p, nil, 0, most); !slices.Equal(cells, none) || f != nothing || n != 0 {
				t.Errorf("P19.1: %s, %d steps: %v, %d, %d", x.code, most, cells, f, n)
			}
		}
		if t.Failed() {
			continue // it might not end
		}
		if cells, f, n := ilsem.Scan(p, nil, 0, math.MaxInt); !slices.Equal(cells, x.want[all]) || f != 0 || n != all {
			t.Errorf("P19.1: %s: %v, %d, %d", x.code, cells, f, n)
		}
	}
}

// P19.1: jumps without an end, each of which takes all steps that there are.
func TestEndless(t *testing.T) {
	done := make(chan struct{})
	go func() {
		defer close(done)
		for _, code := range []string{"a: JMP a", "a:|JMP a", "b: JMP a|a: JMP b", "a: LD x|ADD 1|ST x|JMP a", "a: LD x|ADD 1|ST x|GE 0|JMPC a|JMP a", "JMP b|a: CAL c(CU := TRUE)|b: JMP a"} {
			p, err := il.Parse(listing("x : DINT; c : CTU;", code))
			if err != nil {
				t.Errorf("%s: %v", code, err)
			}
			for _, most := range []int{0, 1, 2, 3, 1000, 100001} {
				if _, fault, steps := ilsem.Scan(p, nil, 0, most); fault != api.FaultSteps || steps != most {
					t.Errorf("P19.1: %s, %d steps: %d, %d", code, most, fault, steps)
				}
			}
		}
	}()
	select {
	case <-done:
	case <-time.After(time.Minute):
		panic("P19.1: a scan doesn't end") // nor would those of other tests
	}
}

// P19.1: a fault ends the scan; a step that isn't there any more is told ahead of
// the fault behind it.
func TestFaults(t *testing.T) {
	for _, x := range []struct {
		code         string
		x            int64
		fault, steps int
	}{
		{"LD 1|ST x|DIV z|ST x|LD 2|ST x", 1, api.FaultZero, 3},
		{"LD 1|ST x|MOD 0|LD 2|ST x", 1, api.FaultZero, 3},
		{"LD a[0]|LD 2|ST x", 0, api.FaultIndex, 1},
		{"LD 1|ST x|LD a[3]|LD 2|ST x", 1, api.FaultIndex, 3},
		{"LD 1|ADD a[1 / z]|LD 2|ST x", 0, api.FaultZero, 2},
		{"LD 1|DIV a[0]|LD 2|ST x", 0, api.FaultIndex, 2},
		{"LD 1|DIV z|ST a[0]|LD 2|ST x", 0, api.FaultZero, 2},
		{"LD 1|ST a[0]|DIV z", 0, api.FaultIndex, 2},
		{"LD 1|ST a[a[0]]|DIV z", 0, api.FaultIndex, 2},
		{"LD 1|ST a[a[1] / z]|DIV z", 0, api.FaultZero, 2},
		{"LD 1|EQ( a[9]|)|JMPC on|LD 2|ST x|on:", 0, api.FaultIndex, 2},
		{"CAL c(PV := b[0], CU := TRUE)|LD 2|ST x", 0, api.FaultIndex, 1},
		{"on: LD 7|ST x|LD z|GT 0|JMPC out|LD 1|DIV z|out:", 7, api.FaultZero, 7},
	} {
		p := program(t, "x : DINT; z : DINT; a : ARRAY[1..2] OF DINT; b : ARRAY[1..2] OF INT; c : CTU;", x.code)
		if cells, fault, steps := ilsem.Scan(p, nil, 0, 99); len(cells) != 14 || cells[0] != x.x || fault != x.fault || steps != x.steps {
			t.Errorf("P19.1: %s: %v, %d, %d; want %d, %d, %d", x.code, cells, fault, steps, x.x, x.fault, x.steps)
		}
		if _, fault, steps := ilsem.Scan(p, nil, 0, x.steps); fault != x.fault || steps != x.steps {
			t.Errorf("P19.1: %s, %d steps: %d, %d", x.code, x.steps, fault, steps)
		}
		if _, fault, steps := ilsem.Scan(p, nil, 0, x.steps-1); fault != api.FaultSteps || steps != x.steps-1 {
			t.Errorf("P19.1: %s, %d steps: %d, %d", x.code, x.steps-1, fault, steps)
		}
	}
}

// P19.1, by P18.1: cells that are missing are 0, others say nothing, all are
// wrapped by their kinds.
func TestCells(t *testing.T) {
	all := ""
	for _, kind := range words[1:] {
		all += " v" + kind + " : " + kind + ";"
	}
	for _, x := range []struct {
		given int64
		want  []int64
	}{
		{1, []int64{1, 1, 1, 1, 1, 1, 1, 1, 1, 1, 1}},
		{-1, []int64{1, -1, -1, -1, 255, 65535, 4294967295, 255, 65535, 4294967295, -1}},
		{0x8001, []int64{1, 1, -32767, 0x8001, 1, 0x8001, 0x8001, 1, 0x8001, 0x8001, 0x8001}},
		{1 << 31, []int64{1, 0, 0, -1 << 31, 0, 0, 1 << 31, 0, 0, 1 << 31, -1 << 31}},
		{math.MinInt64, []int64{1, 0, 0, 0, 0, 0, 0, 0, 0, 0, 0}},
	} {
		given := slices.Repeat([]int64{x.given}, len(words)+3)
		for many := range given {
			want := slices.Clone(x.want)
			clear(want[min(many, len(want)):])
			if cells, fault, steps := ilsem.Scan(program(t, all, "a:"), given[:many], 0, 9); !slices.Equal(cells, want) || fault != 0 || steps != 0 {
				t.Errorf("P19.1: %d of %d: %v, %d, %d; want %v", many, x.given, cells, fault, steps, want)
			}
		}
	}
	// First values are no scan's business.
	if cells, _, _ := ilsem.Scan(program(t, "x : INT := 7; q : pair; y : INT := 8;", "LD x|ST y"), nil, 0, 9); !slices.Equal(cells, []int64{0, 0, 0, 0}) {
		t.Errorf("P19.1: %v", cells)
	}
}

// The chapter's words ahead of P19.1: of what check.Check doesn't take, and of
// Structured Text, nothing is told.
func TestRefused(t *testing.T) {
	text, err := st.Parse("PROGRAM p VAR x : INT; END_VAR x := 1; END_PROGRAM")
	if err != nil {
		t.Fatal(err)
	}
	both := text
	both.Code = program(t, "x : INT;", "LD x|ST x").Code
	programs := []api.Prog{{}, text, both}
	for _, code := range []string{
		"ST x", "LD 1|ST x", "LD x|ST y", "LD b|ST x", "FOO x", "LD x|JMP a", "a:|a: LD x", "LD x|ADD( x", "LD x|)", "LD x|ADD( x|a: LD x|)", "LD x|a: ST x", "LD 40000|LDN x", "LD x|ADD 40000",
		"LD x|S b", "LD x|JMPC a|a:", "CAL x()", "CAL c(CV := x)", "CAL c(PV := b)", "LD x|ST iw", "LD x|ST c.PV", "LD b|AND( b|RET|)", "LD x|ADD", "JMP", "RET x", "LD x|NOT", "ADD( |LD x|)", "LD x|ADD(|ST x|)", "LD x|GT( b|)", "LD 1|a: LD b|c: ST b", "LD x|ST c", "LD x|GT(|LD x|GT x|)",
	} {
		programs = append(programs, program(t, "x : INT; b : BOOL; c : CTU; iw AT %IW0 : INT;", code))
	}
	programs = append(programs, program(t, "x : INT; x : INT;", "LD x"), program(t, "x : BOOL := 2;", ""), program(t, "x : none;", ""))
	for _, p := range programs {
		for _, most := range []int{-1, 0, 9} {
			if cells, fault, steps := ilsem.Scan(p, []int64{1, 2, 3}, 0, most); len(cells) != 0 || fault != 0 || steps != 0 {
				t.Errorf("P19.1: %+v: %v, %d, %d", p.Code, cells, fault, steps)
			}
		}
	}
}
