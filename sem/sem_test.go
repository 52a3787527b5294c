package sem

import (
	"errors"
	"math"
	"slices"
	"testing"

	"rung/api"
	"rung/il"
	"rung/st"
)

// words: the scalars, each at its kind's number.
var words = []string{"", "BOOL", "SINT", "INT", "DINT", "USINT", "UINT", "UDINT", "BYTE", "WORD", "DWORD", "TIME"}

var ranges = [][2]int64{{}, {0, 1}, {-128, 127}, {-32768, 32767}, {-2147483648, 2147483647}, {0, 255}, {0, 65535}, {0, 4294967295}, {0, 255}, {0, 65535}, {0, 4294967295}, {-2147483648, 2147483647}}

// head: of a program that has a struct pair, its variables and statements not yet.
const head = "TYPE pair : STRUCT x : INT := 4; f : BOOL; END_STRUCT; END_TYPE PROGRAM p "

// program reads variables and statements.
func program(t *testing.T, text string) api.Prog {
	t.Helper()
	p, err := st.Parse(head + text + " END_PROGRAM")
	if err != nil {
		t.Fatalf("%s: %v", text, err)
	}
	return p
}

func list(t *testing.T, text string) api.Prog {
	t.Helper()
	p, err := il.Parse("PROGRAM p\n" + text + "\nEND_PROGRAM")
	if err != nil {
		t.Fatalf("%s: %v", text, err)
	}
	return p
}

// wrongAt: is it just this error, and of the type that is asked for?
func wrongAt(err error, at int, want api.Errno) bool {
	x, ok := err.(*api.PlaceError)
	return ok && *x == api.PlaceError{At: at, Err: want} && errors.Is(err, want)
}

// life: a program, the cells ahead of a scan; those behind it, its fault, steps.
type life struct {
	text         string
	cells, want  []int64
	fault, steps int
}

// scans does each of them; most are the steps that it may do.
func scans(t *testing.T, promise string, most int, l []life) {
	t.Helper()
	for _, x := range l {
		cells, fault, steps := Scan(program(t, x.text), x.cells, 0, most)
		if !slices.Equal(cells, x.want) || fault != x.fault || steps != x.steps {
			t.Errorf("%s: %s: %v, %d, %d; want %v, %d, %d", promise, x.text, cells, fault, steps, x.want, x.fault, x.steps)
		}
	}
}

// P18.1: the first values, in the cells' order.
func TestStart(t *testing.T) {
	for _, x := range []struct {
		text string
		want []int64
	}{
		{"", nil},
		{"VAR a : BOOL; b : TIME; c : UDINT; END_VAR", []int64{0, 0, 0}},
		{"VAR a : BOOL := TRUE; b : SINT := -128; c : INT := INT#-5; d : DINT := -2147483648; e : USINT := 255; f : UINT := 65535; END_VAR", []int64{1, -128, -5, -2147483648, 255, 65535}},
		{"VAR a : UDINT := 4294967295; b : BYTE := 16#FF; c : WORD := WORD#16#ABCD; d : DWORD := 4294967295; e : TIME := T#1s; f : TIME := T#-1ms; END_VAR", []int64{4294967295, 255, 0xABCD, 4294967295, 1000, -1}},
		{"VAR RETAIN a : INT := 7; END_VAR VAR b : ARRAY[-1..1] OF DINT; c AT %QX0.1 : BOOL := 1; d AT %IW3 : INT; END_VAR", []int64{7, 0, 0, 0, 1, 0}},
		{"VAR a : INT := 5; q : pair; b : INT := 6; r : pair; END_VAR a := 9;", []int64{5, 4, 0, 6, 4, 0}},
		{"VAR c : CTU; a : INT := 1; t : TON; END_VAR", []int64{0, 0, 0, 0, 0, 0, 0, 0, 1, 0, 0, 0, 0, 0, 0, 0}},
	} {
		p := program(t, x.text)
		got := Start(p)
		if !slices.Equal(got, x.want) {
			t.Errorf("P18.1: %s: %v; want %v", x.text, got, x.want)
		}
		for i := range got {
			got[i] = 77
		}
		if again := Start(p); !slices.Equal(again, x.want) {
			t.Errorf("DOC.md 3: %s: %v is told another time", x.text, again)
		}
	}
}

// P18.1: cells that are missing are 0, others say nothing, all are wrapped.
func TestCells(t *testing.T) {
	all := "VAR"
	for _, kind := range words[1:] {
		all += " v" + kind + " : " + kind + ";"
	}
	all += " END_VAR"
	for _, x := range []struct {
		given int64
		want  []int64
	}{
		{1, []int64{1, 1, 1, 1, 1, 1, 1, 1, 1, 1, 1}},
		{-1, []int64{1, -1, -1, -1, 255, 65535, 4294967295, 255, 65535, 4294967295, -1}},
		{128, []int64{1, -128, 128, 128, 128, 128, 128, 128, 128, 128, 128}},
		{256, []int64{1, 0, 256, 256, 0, 256, 256, 0, 256, 256, 256}},
		{0x8001, []int64{1, 1, -32767, 0x8001, 1, 0x8001, 0x8001, 1, 0x8001, 0x8001, 0x8001}},
		{1 << 31, []int64{1, 0, 0, -1 << 31, 0, 0, 1 << 31, 0, 0, 1 << 31, -1 << 31}},
		{1<<32 + 2, []int64{1, 2, 2, 2, 2, 2, 2, 2, 2, 2, 2}},
		{math.MinInt64, []int64{1, 0, 0, 0, 0, 0, 0, 0, 0, 0, 0}},
		{math.MaxInt64, []int64{1, -1, -1, -1, 255, 65535, 4294967295, 255, 65535, 4294967295, -1}},
	} {
		given := slices.Repeat([]int64{x.given}, len(words)+3)
		for many := range given {
			want := slices.Clone(x.want)
			clear(want[min(many, len(want)):])
			if cells, fault, steps := Scan(program(t, all), given[:many], 0, 9); !slices.Equal(cells, want) || fault != 0 || steps != 0 {
				t.Errorf("P18.1: %d of %d: %v, %d, %d; want %v", many, x.given, cells, fault, steps, want)
			}
		}
	}
	mixed := "VAR a : ARRAY[0..1] OF SINT; q : pair; t : TON; END_VAR"
	given := []int64{200, -200, 1 << 17, 5, 2, 1 << 31, 3, 1<<32 + 4, 1 << 32, 1 << 31, -1, 6}
	want := []int64{-56, 56, 0, 1, 1, -1 << 31, 1, 4, 0, -1 << 31, -1}
	if cells, _, _ := Scan(program(t, mixed), given, 0, 9); !slices.Equal(cells, want) {
		t.Errorf("P18.1: %v; want %v", cells, want)
	}
	p := program(t, mixed)
	for i, n := range want {
		e := api.Expr{Op: api.ExVar, Name: "a", L: []api.Expr{{Op: api.ExLit, N: int64(i)}}}
		switch {
		case i >= 8:
			continue // what a block keeps has no name
		case i >= 2:
			e = api.Expr{Op: api.ExVar, Name: []string{"q", "t"}[i/4], Field: []string{"x", "f", "IN", "PT", "Q", "ET"}[i-2]}
		}
		if got, fault, err := Eval(p, e, 0, given); got != n || fault != 0 || err != nil {
			t.Errorf("P18.2: cell %d: %d, %d, %v; want %d", i, got, fault, err, n)
		}
		if got, fault, err := Eval(p, e, 0, given[:i]); got != 0 || fault != 0 || err != nil {
			t.Errorf("P18.2: cell %d is missing: %d, %d, %v", i, got, fault, err)
		}
	}
}

// traces: of each program the cells behind no step, one step and so on, to all.
var traces = []struct {
	text string
	want [][]int64
}{
	{"VAR x : INT; END_VAR", [][]int64{{0}}},
	{"VAR x : INT; END_VAR x := 1; ; x := x + 5; x := 3;", [][]int64{{0}, {1}, {6}, {3}}},
	{"VAR x : INT; y : INT; END_VAR IF x = 0 THEN x := 1; x := 2; ELSE x := 9; END_IF; y := 1;", [][]int64{{0, 0}, {0, 0}, {1, 0}, {2, 0}, {2, 1}}},
	{"VAR x : INT; y : INT; END_VAR IF x > 0 THEN x := 1; END_IF; y := 1;", [][]int64{{0, 0}, {0, 0}, {0, 1}}},
	{"VAR x : INT; y : INT; END_VAR CASE x OF 1: y := 1; 0: y := 2; x := 3; END_CASE; y := 4;", [][]int64{{0, 0}, {0, 0}, {0, 2}, {3, 2}, {3, 4}}},
	{"VAR i : INT; s : INT; END_VAR FOR i := 1 TO 2 DO s := s + i; END_FOR; s := s * 10;", [][]int64{{0, 0}, {1, 0}, {1, 0}, {2, 1}, {2, 1}, {3, 3}, {3, 3}, {3, 30}}},
	{"VAR i : INT; s : INT; END_VAR FOR i := 3 TO 2 DO s := 1; END_FOR; s := 2;", [][]int64{{0, 0}, {3, 0}, {3, 0}, {3, 2}}},
	{"VAR i : SINT; s : INT; END_VAR FOR i := 127 TO 127 DO s := 1; END_FOR; s := 2;", [][]int64{{0, 0}, {127, 0}, {127, 0}, {127, 1}, {127, 2}}},
	{"VAR x : INT; y : INT; END_VAR WHILE x < 2 DO x := x + 1; END_WHILE; y := 1;", [][]int64{{0, 0}, {0, 0}, {0, 0}, {1, 0}, {1, 0}, {2, 0}, {2, 0}, {2, 1}}},
	{"VAR x : INT; y : INT; END_VAR REPEAT x := x + 1; UNTIL x >= 2 END_REPEAT; y := 1;", [][]int64{{0, 0}, {0, 0}, {1, 0}, {1, 0}, {2, 0}, {2, 0}, {2, 1}}},
	{"VAR x : INT; END_VAR REPEAT UNTIL TRUE END_REPEAT; x := 1;", [][]int64{{0}, {0}, {0}, {1}}},
	{"VAR x : INT; END_VAR WHILE TRUE DO x := 1; EXIT; x := 2; END_WHILE; x := 3;", [][]int64{{0}, {0}, {0}, {1}, {1}, {3}}},
	{"VAR x : INT; END_VAR REPEAT x := 1; EXIT; UNTIL FALSE END_REPEAT; x := 3;", [][]int64{{0}, {0}, {1}, {1}, {3}}},
	{"VAR i : INT; END_VAR FOR i := 5 TO 9 DO EXIT; END_FOR; i := 3;", [][]int64{{0}, {5}, {5}, {5}, {3}}},
	{"VAR x : INT; END_VAR x := 1; RETURN; x := 2;", [][]int64{{0}, {1}, {1}}},
	{"VAR c : CTU; x : INT; END_VAR c(PV := 1, CU := TRUE); x := c.CV;", [][]int64{{0, 0, 0, 0, 0, 0, 0, 0, 0}, {1, 0, 1, 1, 1, 1, 0, 0, 0}, {1, 0, 1, 1, 1, 1, 0, 0, 1}}},
	{"VAR i : INT; j : INT; n : INT; END_VAR FOR i := 1 TO 2 DO FOR j := 0 TO 1 DO EXIT; END_FOR; n := n + 1; END_FOR;", [][]int64{
		{0, 0, 0}, {1, 0, 0}, {1, 0, 0}, {1, 0, 0}, {1, 0, 0}, {1, 0, 0}, {2, 0, 1}, {2, 0, 1}, {2, 0, 1}, {2, 0, 1}, {2, 0, 1}, {3, 0, 2}, {3, 0, 2}}},
}

// P18.1: what isn't begun any more, with no step that may be done, one, and so
// on: what was done stays.
func TestSteps(t *testing.T) {
	for _, x := range traces {
		p, all := program(t, x.text), len(x.want)-1
		for _, most := range []int{math.MinInt, -5, -1} {
			if cells, fault, steps := Scan(p, nil, 0, most); !slices.Equal(cells, x.want[0]) || fault != faultOf(all > 0) || steps != 0 {
				t.Errorf("P18.1: %s, %d steps: %v, %d, %d", x.text, most, cells, fault, steps)
			}
		}
		for most, want := range x.want {
			if cells, fault, steps := Scan(p, nil, 0, most); !slices.Equal(cells, want) || fault != faultOf(most < all) || steps != most {
				t.Errorf("P18.1: %s, %d steps: %v, %d, %d; want %v", x.text, most, cells, fault, steps, want)
			}
		}
		for _, most := range []int{all + 1, math.MaxInt} {
			if cells, fault, steps := Scan(p, nil, 0, most); !slices.Equal(cells, x.want[all]) || fault != 0 || steps != all {
				t.Errorf("P18.1: %s, %d steps: %v, %d, %d; want %v", x.text, most, cells, fault, steps, x.want[all])
			}
		}
	}
}

func faultOf(short bool) int {
	if short {
		return api.FaultSteps
	}
	return api.FaultNone
}

// P18.1: loops without an end, each of which takes all steps that there are; of
// an empty one a test is a step alone.
func TestEndless(t *testing.T) {
	for _, text := range []string{
		"WHILE TRUE DO END_WHILE;", "WHILE TRUE DO x := x + 1; END_WHILE;", "REPEAT UNTIL FALSE END_REPEAT;", "REPEAT x := 1; UNTIL x = 2 END_REPEAT;",
		"FOR x := 1 TO 5 BY 0 DO END_FOR;", "FOR x := 1 TO 5 DO x := 1; END_FOR;", "FOR x := 5 TO 1 BY -1 DO x := 4; END_FOR;", "WHILE TRUE DO WHILE TRUE DO EXIT; END_WHILE; END_WHILE;",
	} {
		for _, most := range []int{0, 1, 2, 3, 4, 5, 1000, 100001} {
			if _, fault, steps := Scan(program(t, "VAR x : INT; END_VAR "+text), nil, 0, most); fault != api.FaultSteps || steps != most {
				t.Errorf("P18.1: %s, %d steps: %d, %d", text, most, fault, steps)
			}
		}
	}
}

// P18.1: behind a fault nothing more is done; what was done stays.
func TestFaults(t *testing.T) {
	vars := "VAR x : INT; y : INT; z : INT; a : ARRAY[1..2] OF INT; END_VAR y := 1; "
	l := []life{}
	for _, x := range []struct {
		text         string
		want         []int64
		fault, steps int
	}{
		{"x := 10 / z; y := 2;", []int64{0, 1, 0, 0, 0}, api.FaultZero, 2},
		{"x := 10 MOD z; y := 2;", []int64{0, 1, 0, 0, 0}, api.FaultZero, 2},
		{"a[0] := 1; y := 2;", []int64{0, 1, 0, 0, 0}, api.FaultIndex, 2},
		{"a[3] := 1; y := 2;", []int64{0, 1, 0, 0, 0}, api.FaultIndex, 2},
		{"a[y] := 5; a[2] := 6;", []int64{0, 1, 0, 5, 6}, api.FaultNone, 3},
		{"x := a[0]; y := 2;", []int64{0, 1, 0, 0, 0}, api.FaultIndex, 2},
		{"a[1 / z] := a[0];", []int64{0, 1, 0, 0, 0}, api.FaultZero, 2},
		{"a[0] := 1 / z;", []int64{0, 1, 0, 0, 0}, api.FaultIndex, 2},
		{"a[1] := 1 / z;", []int64{0, 1, 0, 0, 0}, api.FaultZero, 2},
		{"a[a[0]] := 1 / z;", []int64{0, 1, 0, 0, 0}, api.FaultIndex, 2},
		{"IF 1 / z = 1 THEN y := 2; ELSE y := 3; END_IF; y := 4;", []int64{0, 1, 0, 0, 0}, api.FaultZero, 2},
		{"IF FALSE THEN y := 2; ELSIF a[0] = 1 THEN y := 3; ELSE y := 4; END_IF; y := 5;", []int64{0, 1, 0, 0, 0}, api.FaultIndex, 2},
		{"IF TRUE THEN y := 2; ELSIF a[0] = 1 THEN y := 3; END_IF; x := 5;", []int64{5, 2, 0, 0, 0}, api.FaultNone, 4},
		{"IF TRUE THEN y := 2; x := 1 / z; END_IF; y := 5;", []int64{0, 2, 0, 0, 0}, api.FaultZero, 4},
		{"CASE 1 / z OF 0: y := 2; ELSE y := 3; END_CASE; y := 4;", []int64{0, 1, 0, 0, 0}, api.FaultZero, 2},
		{"CASE y OF 1: y := 2; a[0] := 1; ELSE y := 3; END_CASE; y := 4;", []int64{0, 2, 0, 0, 0}, api.FaultIndex, 4},
		{"FOR x := 1 / z TO a[0] BY a[0] DO y := 2; END_FOR; y := 4;", []int64{0, 1, 0, 0, 0}, api.FaultZero, 2},
		{"FOR x := 5 TO 1 / z BY a[0] DO y := 2; END_FOR; y := 4;", []int64{0, 1, 0, 0, 0}, api.FaultZero, 2},
		{"FOR x := 5 TO 6 BY a[0] DO y := 2; END_FOR; y := 4;", []int64{0, 1, 0, 0, 0}, api.FaultIndex, 2},
		{"FOR x := 5 TO 6 DO y := 2; y := 1 / z; END_FOR; y := 4;", []int64{5, 2, 0, 0, 0}, api.FaultZero, 5},
		{"WHILE 1 / z = 0 DO y := 2; END_WHILE; y := 4;", []int64{0, 1, 0, 0, 0}, api.FaultZero, 3},
		{"WHILE 6 / (3 - x) > 0 DO x := x + 1; END_WHILE; y := 4;", []int64{3, 1, 0, 0, 0}, api.FaultZero, 9},
		{"WHILE TRUE DO a[x] := 1; END_WHILE; y := 4;", []int64{0, 1, 0, 0, 0}, api.FaultIndex, 4},
		{"REPEAT y := 2; UNTIL 1 / z = 0 END_REPEAT; y := 4;", []int64{0, 2, 0, 0, 0}, api.FaultZero, 4},
		{"REPEAT y := 2; y := a[9]; UNTIL TRUE END_REPEAT; y := 4;", []int64{0, 2, 0, 0, 0}, api.FaultIndex, 4},
		{"WHILE TRUE DO REPEAT IF TRUE THEN CASE y OF 1: x := a[9]; END_CASE; END_IF; UNTIL TRUE END_REPEAT; x := 7; END_WHILE; x := 8;", []int64{0, 1, 0, 0, 0}, api.FaultIndex, 7},
	} {
		l = append(l, life{vars + x.text, nil, x.want, x.fault, x.steps})
	}
	scans(t, "P18.1", 99, l)
	for _, x := range l {
		if x.fault != api.FaultNone {
			// A step that isn't there any more is told ahead of the fault behind it.
			if _, fault, steps := Scan(program(t, x.text), nil, 0, x.steps-1); fault != api.FaultSteps || steps != x.steps-1 {
				t.Errorf("P18.1: %s, %d steps: %d, %d", x.text, x.steps-1, fault, steps)
			}
		}
	}
}

// The chapter's words ahead of P18.1: of what check.Check doesn't take, and of IL,
// nothing is told.
func TestRefused(t *testing.T) {
	for _, x := range []struct {
		p   api.Prog
		at  int
		err api.Errno
	}{
		{program(t, "VAR x : INT; END_VAR x := TRUE;"), len(head + "VAR x : INT; END_VAR x := "), api.ErrKind},
		{program(t, "VAR x : INT; END_VAR x := 1; y := 1;"), len(head + "VAR x : INT; END_VAR x := 1; "), api.ErrName},
		{program(t, "VAR x : INT; x : INT; END_VAR x := 1;"), len(head + "VAR x : INT; "), api.ErrTwice},
		{program(t, "VAR x : BOOL := 2; END_VAR"), len(head + "VAR "), api.ErrInit},
		{program(t, "VAR x : INT; END_VAR EXIT;"), len(head + "VAR x : INT; END_VAR "), api.ErrExit},
		{program(t, "VAR t : TON; END_VAR t.IN := TRUE;"), len(head + "VAR t : TON; END_VAR "), api.ErrTarget},
		{program(t, "VAR x : INT; END_VAR x := 40000;"), len(head + "VAR x : INT; END_VAR x := "), api.ErrConst},
		{program(t, "VAR x : INT; END_VAR x();"), len(head + "VAR x : INT; END_VAR "), api.ErrCall},
		{list(t, "VAR x : INT; END_VAR\nFOO x"), len("PROGRAM p\nVAR x : INT; END_VAR\n"), api.ErrOp},
		{list(t, "VAR x : INT; END_VAR\nST x"), len("PROGRAM p\nVAR x : INT; END_VAR\n"), api.ErrKind},
		{list(t, "VAR x : INT := 3; END_VAR\nLD 1\nJMP a"), len("PROGRAM p\nVAR x : INT := 3; END_VAR\nLD 1\n"), api.ErrLabel},
		{list(t, "VAR x : INT := 3; END_VAR\nLD x\nST x"), 0, api.OK},
		{api.Prog{Il: true}, 0, api.OK},
	} {
		for _, most := range []int{0, 9} {
			if cells, fault, steps := Scan(x.p, []int64{1, 2}, 0, most); len(cells) != 0 || fault != 0 || steps != 0 {
				t.Errorf("P18.1: %v at %d: %v, %d, %d", x.err, x.at, cells, fault, steps)
			}
		}
		if cells := Start(x.p); len(cells) != 0 {
			t.Errorf("P18.1: %v at %d: %v", x.err, x.at, cells)
		}
		n, fault, err := Eval(x.p, api.Expr{Op: api.ExLit, N: 5}, 0, []int64{1, 2})
		if n != 0 || fault != 0 || x.err == api.OK && err != nil || x.err != api.OK && !wrongAt(err, x.at, x.err) {
			t.Errorf("P18.2: %v at %d: %d, %d, %v", x.err, x.at, n, fault, err)
		}
	}
}
