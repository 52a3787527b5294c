package types

import (
	"errors"
	"math"
	"slices"
	"strconv"
	"strings"
	"testing"

	"rung/api"
	"rung/il"
	"rung/st"
)

// wrongAt: is it just this error, and of the type that is asked for?
func wrongAt(e error, at int, want api.Errno) bool {
	x, ok := e.(*api.PlaceError)
	return ok && *x == api.PlaceError{At: at, Err: want} && errors.Is(e, want)
}

// declared reads declarations, of structs and of variables, as programs do; a ^,
// which isn't part of them, stands at the place that is told.
func declared(t *testing.T, structs, vars string) (api.Prog, int) {
	t.Helper()
	text := "TYPE " + structs + " END_TYPE PROGRAM p " + vars + " END_PROGRAM"
	before, behind, _ := strings.Cut(text, "^")
	p, e := st.Parse(before + behind)
	if e != nil {
		t.Fatalf("%q: %v", text, e)
	}
	return p, len(before)
}

// variable reads one declaration.
func variable(t *testing.T, s string) api.Prog {
	t.Helper()
	p, _ := declared(t, "", "VAR "+s+"; END_VAR")
	return p
}

// right: such are taken; they have so many cells.
func right(t *testing.T, structs, vars string, cells int) {
	t.Helper()
	p, _ := declared(t, structs, vars)
	if e := Check(p); e != nil || len(Cells(p)) != cells {
		t.Errorf("P15.1: %s %s: %v, %d cells; want %d", structs, vars, e, len(Cells(p)), cells)
	}
}

// refused: such are refused, at the ^; then there are no cells, and none is
// found.
func refused(t *testing.T, structs, vars string, want api.Errno) {
	t.Helper()
	p, at := declared(t, structs, vars)
	if e := Check(p); !wrongAt(e, at, want) {
		t.Errorf("P15.1: %s %s: %v; want %v at %d", structs, vars, e, want, at)
	}
	if cells := Cells(p); len(cells) != 0 {
		t.Errorf("P15.2: %s %s: %v", structs, vars, cells)
	}
	for _, v := range p.Vars {
		for _, field := range []string{"", "Q", "x", "1"} {
			if n := Find(p, v.Name, field, v.T.Lo); n != -1 {
				t.Errorf("P15.3: %s %s: Find(%s, %s): %d", structs, vars, v.Name, field, n)
			}
		}
	}
}

// P15.3: the ten blocks, their pins in order, the pins' kinds; nothing else is a
// block, or a pin.
func TestBlocks(t *testing.T) {
	var all []string
	for block := range blocks {
		in, out, _ := wantPins(block)
		all = append(append(append(all, block), in...), out...)
	}
	all = append(all, "", "1", "2", "3", "0", "4", "X", "ton", "Ton", "TON ", " TON", "TONN", "TO", "R_TRIG_", "R TRIG", "R_TRI", "q", "Q ", "PROGRAM", "INT", "TIME", "\xff", strings.Repeat("TON", 1000))
	for _, block := range all {
		wantIn, wantOut, kinds := wantPins(block)
		_, is := blocks[block]
		in, out := Pins(block)
		if Block(block) != is || !slices.Equal(in, wantIn) || !slices.Equal(out, wantOut) {
			t.Errorf("P15.3: %q: %v, %v, %v", block, Block(block), in, out)
		}
		pins := append(wantIn, wantOut...)
		for _, pin := range all {
			want := 0
			if i := slices.Index(pins, pin); i >= 0 {
				want = kinds[i]
			}
			if got := Pin(block, pin); got != want {
				t.Errorf("P15.3: Pin(%q, %q): %d; want %d", block, pin, got, want)
			}
			for _, kind := range []int{0, api.KFb} {
				if got, ok := FieldOf(api.Prog{}, api.Type{Kind: kind, Name: block}, pin); got != want || ok != (want != 0) {
					t.Errorf("P15.3: FieldOf(%q, %q): %d, %v; want %d", block, pin, got, ok, want)
				}
			}
		}
	}
}

// P15.2: the chapter's examples, and a layout with all that there may be,
// written out.
func TestLayout(t *testing.T) {
	p := variable(t, "x : ARRAY[2..4] OF INT")
	want := []api.Cell{{Index: 2, Kind: api.KInt}, {Index: 3, Kind: api.KInt}, {Index: 4, Kind: api.KInt}}
	if cells := Cells(p); !slices.Equal(cells, want) {
		t.Errorf("P15.2: %v", cells)
	}
	if cells := Cells(variable(t, "t : TON")); len(cells) != 7 {
		t.Errorf("P15.2: %v", cells)
	}
	p, _ = declared(t, "s : STRUCT x : SINT := -128; y : TIME := T#1s; z : BOOL; END_STRUCT; u : STRUCT x : WORD := WORD#16#FFFF; END_STRUCT;",
		"VAR b AT %QX1.3 : BOOL := TRUE; END_VAR VAR RETAIN l : ARRAY[-2..0] OF TIME; q : s; c : CTUD; END_VAR VAR i AT %IW63 : UINT; u1 : u; r : F_TRIG; n : UDINT := 4294967295; o : DINT := -5; m AT %MW0 : INT := INT#-7; e : BYTE; END_VAR")
	want = []api.Cell{
		{Var: 0, Index: -1, Kind: api.KBool, Area: api.AreaQX, Offset: 11, Init: 1},
		{Var: 1, Index: -2, Kind: api.KTime, Retain: true}, {Var: 1, Index: -1, Kind: api.KTime, Retain: true}, {Var: 1, Index: 0, Kind: api.KTime, Retain: true},
		{Var: 2, Field: "x", Index: -1, Kind: api.KSint, Retain: true, Init: -128}, {Var: 2, Field: "y", Index: -1, Kind: api.KTime, Retain: true, Init: 1000}, {Var: 2, Field: "z", Index: -1, Kind: api.KBool, Retain: true},
		{Var: 3, Field: "CU", Index: -1, Kind: api.KBool, Retain: true}, {Var: 3, Field: "CD", Index: -1, Kind: api.KBool, Retain: true}, {Var: 3, Field: "R", Index: -1, Kind: api.KBool, Retain: true}, {Var: 3, Field: "LD", Index: -1, Kind: api.KBool, Retain: true}, {Var: 3, Field: "PV", Index: -1, Kind: api.KInt, Retain: true},
		{Var: 3, Field: "QU", Index: -1, Kind: api.KBool, Retain: true}, {Var: 3, Field: "QD", Index: -1, Kind: api.KBool, Retain: true}, {Var: 3, Field: "CV", Index: -1, Kind: api.KInt, Retain: true},
		{Var: 3, Field: "1", Index: -1, Kind: api.KDint, Retain: true}, {Var: 3, Field: "2", Index: -1, Kind: api.KDint, Retain: true}, {Var: 3, Field: "3", Index: -1, Kind: api.KDint, Retain: true},
		{Var: 4, Index: -1, Kind: api.KUint, Area: api.AreaIW, Offset: 63},
		{Var: 5, Field: "x", Index: -1, Kind: api.KWord, Init: 65535},
		{Var: 6, Field: "CLK", Index: -1, Kind: api.KBool}, {Var: 6, Field: "Q", Index: -1, Kind: api.KBool}, {Var: 6, Field: "1", Index: -1, Kind: api.KDint}, {Var: 6, Field: "2", Index: -1, Kind: api.KDint}, {Var: 6, Field: "3", Index: -1, Kind: api.KDint},
		{Var: 7, Index: -1, Kind: api.KUdint, Init: 4294967295}, {Var: 8, Index: -1, Kind: api.KDint, Init: -5}, {Var: 9, Index: -1, Kind: api.KInt, Area: api.AreaMW, Init: -7}, {Var: 10, Index: -1, Kind: api.KByte},
	}
	if cells := Cells(p); !slices.Equal(cells, want) {
		t.Errorf("P15.2: %+v; want %+v", cells, want)
	}
	if e, cells := Check(api.Prog{}), Cells(api.Prog{}); e != nil || len(cells) != 0 || Find(api.Prog{}, "", "", 0) != -1 {
		t.Errorf("P15.2: of nothing: %v, %v", e, cells)
	}
}

// P15.2: statements and instructions say nothing; declarations of both
// languages are the same.
func TestBothLanguages(t *testing.T) {
	const head = "TYPE s : STRUCT x : INT := 3; END_STRUCT; END_TYPE PROGRAM p VAR RETAIN a : s; t : TP; l : ARRAY[0..1] OF BOOL; END_VAR\n"
	p, e := st.Parse(head + "nope := a.z + 1; t(Q := 5); END_PROGRAM")
	if e != nil {
		t.Fatal(e)
	}
	q, e := il.Parse(head + "LD nope\nJMP x\nEND_PROGRAM")
	if e != nil {
		t.Fatal(e)
	}
	if Check(p) != nil || Check(q) != nil || len(Cells(p)) != 10 || !slices.Equal(Cells(p), Cells(q)) {
		t.Errorf("P15.2: %v, %v, %v, %v", Check(p), Check(q), Cells(p), Cells(q))
	}
}

// P15.1: what is wrong with structs, and what isn't.
func TestStructs(t *testing.T) {
	for block := range blocks {
		refused(t, "^"+block+" : STRUCT x : INT; END_STRUCT;", "", api.ErrTwice)
		right(t, strings.ToLower(block)+" : STRUCT x : INT; "+block+" : INT; END_STRUCT;", "VAR a : "+block+"; b : "+strings.ToLower(block)+"; END_VAR", len(Cells(variable(t, "a : "+block)))+2)
	}
	refused(t, "s : STRUCT x : INT; END_STRUCT; ^s : STRUCT x : INT; END_STRUCT;", "", api.ErrTwice)
	refused(t, "s : STRUCT x : INT; END_STRUCT; u : STRUCT y : INT; END_STRUCT; ^s : STRUCT END_STRUCT;", "", api.ErrTwice)
	refused(t, "^s : STRUCT END_STRUCT;", "", api.ErrRoom)
	refused(t, "u : STRUCT x : BOOL; END_STRUCT; ^s : STRUCT END_STRUCT; s : STRUCT END_STRUCT;", "VAR a : INT; a : INT; END_VAR", api.ErrRoom)
	refused(t, "s : STRUCT x : INT; y : INT; ^x : BOOL; END_STRUCT;", "", api.ErrTwice)
	refused(t, "s : STRUCT x : INT; ^x : INT := 40000; y : INT := 40000; END_STRUCT;", "", api.ErrTwice)
	refused(t, "s : STRUCT x : INT; ^y : INT := 40000; x : INT; END_STRUCT;", "", api.ErrInit)
	refused(t, "s : STRUCT ^y : INT := 40000; END_STRUCT; s : STRUCT END_STRUCT;", "", api.ErrInit)
	right(t, "s : STRUCT s : INT; TON : INT; X : INT; x : INT; END_STRUCT; S : STRUCT s : INT; END_STRUCT;", "VAR x : s; y : S; END_VAR", 5)
	right(t, "s : STRUCT x : INT; END_STRUCT; u : STRUCT x : INT; END_STRUCT;", "VAR x : s; y : s; z : u; END_VAR", 3)
	right(t, "s : STRUCT x : INT; END_STRUCT;", "", 0)
}

// P15.1: 256 fields, and one more; more structs than that.
func TestManyFields(t *testing.T) {
	fields := func(n int) string {
		var b strings.Builder
		for i := range n {
			b.WriteString("f" + strconv.Itoa(i) + " : BYTE := " + strconv.Itoa(i%256) + "; ")
		}
		return b.String()
	}
	right(t, "s : STRUCT "+fields(256)+"END_STRUCT;", "VAR a : s; b : s; END_VAR", 512)
	refused(t, "^s : STRUCT "+fields(257)+"END_STRUCT;", "", api.ErrRoom)
	refused(t, "^s : STRUCT x : INT; x : INT; "+fields(255)+"END_STRUCT;", "", api.ErrRoom)
	refused(t, "^TON : STRUCT "+fields(257)+"END_STRUCT;", "", api.ErrTwice)
	var many strings.Builder
	for i := range 1000 {
		many.WriteString("s" + strconv.Itoa(i) + " : STRUCT x : INT := " + strconv.Itoa(i) + "; END_STRUCT; ")
	}
	right(t, many.String(), "VAR a : s0; b : s999; END_VAR", 2)
	refused(t, many.String()+"^s999 : STRUCT x : INT; END_STRUCT;", "", api.ErrTwice)
	p, _ := declared(t, many.String(), "VAR a : s0; b : s999; END_VAR")
	if cells := Cells(p); cells[0].Init != 0 || cells[1].Init != 999 {
		t.Errorf("P15.2: %v", cells)
	}
}

// P15.1: names of variables that stand for something already.
func TestNames(t *testing.T) {
	for block := range blocks {
		refused(t, "", "VAR a : INT; ^"+block+" : INT; END_VAR", api.ErrTwice)
		refused(t, "", "VAR ^"+block+" : "+block+"; END_VAR", api.ErrTwice)
	}
	refused(t, "s : STRUCT x : INT; END_STRUCT; u : STRUCT x : INT; END_STRUCT;", "VAR ^u : INT; END_VAR", api.ErrTwice)
	refused(t, "s : STRUCT x : INT; END_STRUCT;", "VAR ^s : s; END_VAR", api.ErrTwice)
	refused(t, "", "VAR a : INT; b : INT; ^a : BOOL; END_VAR", api.ErrTwice)
	refused(t, "", "VAR a : INT; END_VAR VAR RETAIN ^a : INT; END_VAR", api.ErrTwice)
	right(t, "s : STRUCT x : INT; END_STRUCT;", "VAR a : s; A : INT; x : INT; p : INT; Q : BOOL; ton : TON; S : BOOL; END_VAR", 13)
}

// P15.1: types that there aren't, and arrays' bounds.
func TestTypes(t *testing.T) {
	for _, name := range []string{"nope", "ton", "S", "a", "p", "x", "T"} {
		refused(t, "s : STRUCT x : INT; END_STRUCT;", "VAR a : INT; ^b : "+name+"; END_VAR", api.ErrType)
	}
	for _, x := range []struct {
		low, high int
		ok        bool
	}{
		{0, 0, true}, {0, 255, true}, {0, 256, false}, {1, 0, false}, {1, 256, true}, {1, 257, false}, {-1, -2, false}, {-255, 0, true}, {-256, 0, false}, {-128, 127, true}, {-128, 128, false},
		{-2147483648, -2147483648, true}, {-2147483648, -2147483393, true}, {-2147483648, -2147483392, false}, {-2147483649, -2147483649, false}, {-2147483649, -2147483648, false}, {-2147483649, 0, false},
		{2147483647, 2147483647, true}, {2147483392, 2147483647, true}, {2147483391, 2147483647, false}, {2147483647, 2147483648, false}, {2147483648, 2147483648, false}, {4294967295, 4294967295, false}, {-4294967295, -4294967295, false}, {-2147483648, 2147483647, false}, {2147483647, -2147483648, false},
		{math.MinInt, math.MaxInt, false}, {math.MaxInt, math.MinInt, false}, {math.MinInt, math.MinInt, false}, {math.MaxInt, math.MaxInt, false}, {math.MinInt, math.MinInt + 255, false}, {math.MinInt, 0, false}, {0, math.MaxInt, false}, {-1, math.MaxInt, false}, {-2147483648, math.MaxInt, false}, {math.MaxInt, math.MinInt + 200, false},
	} {
		for elem := api.KBool; elem <= api.KTime; elem++ {
			p := api.Prog{Vars: []api.Var{{Name: "a", T: api.Type{Kind: api.KArray, Lo: x.low, Hi: x.high, Elem: elem}, At: 7}}}
			e, cells := Check(p), Cells(p)
			if !x.ok {
				if !wrongAt(e, 7, api.ErrType) || len(cells) != 0 {
					t.Errorf("P15.1: %d..%d: %v, %v", x.low, x.high, e, cells)
				}
				continue
			}
			if e != nil || len(cells) != x.high-x.low+1 {
				t.Errorf("P15.1: %d..%d: %v, %v", x.low, x.high, e, cells)
			}
			for i, c := range cells {
				if c != (api.Cell{Index: x.low + i, Kind: elem}) || Find(p, "a", "", x.low+i) != i {
					t.Errorf("P15.2: %d..%d: %d: %v", x.low, x.high, i, c)
				}
			}
			for _, index := range []int{x.low - 1, x.high + 1, math.MinInt, math.MaxInt} {
				if n := Find(p, "a", "", index); n != -1 {
					t.Errorf("P15.3: %d..%d: %d is %d", x.low, x.high, index, n)
				}
			}
		}
	}
}

// P15.1: each kind at each area, retained or not; arrays, structs, blocks
// nowhere.
func TestAddresses(t *testing.T) {
	kinds := append(slices.Clone(kindWords[1:]), "ARRAY[0..0] OF BOOL", "ARRAY[0..0] OF INT", "s", "TON")
	for _, where := range []string{"%IX0.0", "%QX15.7", "%MX7.3", "%IW0", "%QW63", "%MW6"} {
		for _, kind := range kinds {
			ok := where[2] == 'X' && kind == "BOOL" || where[2] == 'W' && slices.Contains([]string{"INT", "UINT", "WORD"}, kind)
			const structs = "s : STRUCT x : INT; END_STRUCT;"
			refused(t, structs, "VAR RETAIN a : INT; ^b AT "+where+" : "+kind+"; END_VAR", api.ErrPlace)
			if !ok {
				refused(t, structs, "VAR a : INT; ^b AT "+where+" : "+kind+"; END_VAR", api.ErrPlace)
				continue
			}
			right(t, structs, "VAR a : INT; b AT "+where+" : "+kind+"; END_VAR", 2)
			p := variable(t, "b AT "+where+" : "+kind)
			at := allSpots[where]
			if c := Cells(p)[0]; c != (api.Cell{Index: -1, Kind: slices.Index(kindWords, kind), Area: at.area, Offset: at.offset}) {
				t.Errorf("P15.2: %s: %v", where, c)
			}
		}
	}
	for where, at := range allSpots {
		kind := "BOOL"
		if where[2] == 'W' {
			kind = "WORD"
		}
		if c := Cells(variable(t, "b AT "+where+" : "+kind)); len(c) != 1 || c[0].Area != at.area || c[0].Offset != at.offset {
			t.Errorf("P15.2: %s: %v", where, c)
		}
	}
	refused(t, "", "VAR a AT %QX0.0 : BOOL; b AT %QX0.1 : BOOL; ^c AT %QX0.0 : BOOL; END_VAR", api.ErrTwice)
	refused(t, "", "VAR a AT %MW5 : INT; ^c AT %MW5 : WORD; END_VAR", api.ErrTwice)
	right(t, "", "VAR a AT %QW0 : INT; b AT %MW0 : INT; c AT %IW0 : INT; d AT %QX0.0 : BOOL; e AT %MX0.0 : BOOL; f AT %IX0.0 : BOOL; g AT %QW1 : INT; h : INT; i : INT; END_VAR", 9)
}

// P15.1: first values of every kind, in each of their forms, at the ends of
// their ranges and past them.
func TestFirstValues(t *testing.T) {
	lit := func(kind int, n int64) api.Expr { return api.Expr{Op: api.ExLit, Kind: kind, N: n, At: 3} }
	neg := func(e api.Expr) api.Expr { return api.Expr{Op: api.ExNeg, L: []api.Expr{e}, At: 2} }
	hold := func(kind int, init api.Expr, ok bool, n int64) {
		t.Helper()
		v := api.Var{Name: "a", T: api.Type{Kind: kind}, Init: []api.Expr{init}, At: 5}
		for _, p := range []api.Prog{{Vars: []api.Var{v}}, {Structs: []api.Struct{{Name: "s", Fields: []api.Var{v}, At: 4}}, Vars: []api.Var{{Name: "a", T: api.Type{Name: "s"}, At: 6}}}} {
			e, cells := Check(p), Cells(p)
			if ok && (e != nil || len(cells) != 1 || cells[0].Init != n || cells[0].Kind != kind) {
				t.Errorf("P15.1: %s := %+v: %v, %v; want %d", kindWords[kind], init, e, cells, n)
			}
			if !ok && (!wrongAt(e, 5, api.ErrInit) || len(cells) != 0) {
				t.Errorf("P15.1: %s := %+v: %v, %v; want ErrInit", kindWords[kind], init, e, cells)
			}
		}
	}
	var numbers []int64
	for _, r := range ranges {
		numbers = append(numbers, r[0]-1, r[0], r[0]+1, r[1]-1, r[1], r[1]+1)
	}
	numbers = append(numbers, 2, 3, 7, -2, 1<<33, 1<<40, -1<<40, math.MaxInt64, -math.MaxInt64, math.MinInt64, 1<<32+5)
	for kind, r := range ranges {
		for _, n := range numbers {
			in := r[0] <= n && n <= r[1]
			hold(kind, lit(0, n), in && kind != api.KTime, n)
			opposite := n != math.MinInt64 && r[0] <= -n && -n <= r[1]
			hold(kind, neg(lit(0, n)), opposite && kind != api.KTime, -n)
			for other, limits := range ranges {
				if n < limits[0] || n > limits[1] {
					continue
				}
				hold(kind, lit(other, n), other == kind, n)
				hold(kind, neg(lit(other, n)), false, 0)
			}
		}
	}
}

// P15.1: first values as texts tell them.
func TestFirstValueTexts(t *testing.T) {
	for _, s := range []string{
		"BOOL := TRUE", "BOOL := FALSE", "BOOL := 1", "BOOL := 0", "BOOL := -0", "BOOL := BOOL#1", "INT := 32767", "INT := -32768", "INT := INT#-32768", "INT := 16#7FFF", "UINT := 65535", "UINT := -0", "WORD := 16#FFFF", "WORD := WORD#2#1", "TIME := T#-1h", "TIME := TIME#5ms", "TIME := T#0s", "DINT := -2147483648", "UDINT := 4294967295", "SINT := -128", "USINT := 255", "BYTE := 255", "DWORD := 16#FFFF_FFFF",
	} {
		right(t, "s : STRUCT x : "+s+"; END_STRUCT;", "VAR a : "+s+"; b : s; END_VAR", 2)
	}
	for _, s := range []string{
		"BOOL := 2", "BOOL := -1", "BOOL := INT#1", "BOOL := -TRUE", "BOOL := BYTE#1", "INT := 32768", "INT := -32769", "INT := TRUE", "INT := DINT#1", "INT := SINT#1", "INT := -INT#5", "INT := T#5ms", "INT := WORD#5", "UINT := -1", "UINT := 65536", "WORD := UINT#1", "WORD := -1", "TIME := 0", "TIME := 5", "TIME := -5", "TIME := DINT#5", "DINT := 2147483648", "DINT := -2147483649", "DINT := T#1s", "UDINT := -1", "SINT := 128", "SINT := -129", "USINT := 256", "BYTE := 256", "BYTE := USINT#1", "DWORD := -1",
	} {
		refused(t, "", "VAR a : INT; ^b : "+s+"; END_VAR", api.ErrInit)
		refused(t, "s : STRUCT x : INT; ^y : "+s+"; END_STRUCT;", "VAR a : nope; END_VAR", api.ErrInit)
	}
	for _, s := range []string{"ARRAY[0..1] OF INT := 1", "ARRAY[0..0] OF BOOL := TRUE", "s := 1", "s := INT#1", "TON := 1", "TON := T#1s", "CTU := INT#0", "SR := TRUE"} {
		refused(t, "s : STRUCT x : INT; END_STRUCT;", "VAR a : INT; ^b : "+s+"; END_VAR", api.ErrInit)
	}
	for _, where := range []string{"%IX0.0 : BOOL", "%IX15.7 : BOOL", "%IW0 : INT", "%IW63 : WORD", "%IW5 : UINT"} {
		refused(t, "", "VAR ^a AT "+where+" := 0; END_VAR", api.ErrInit)
		refused(t, "", "VAR ^a AT "+where+" := 1; END_VAR", api.ErrInit)
		right(t, "", "VAR a AT "+strings.Replace(where, "I", "Q", 1)+" := 1; b AT "+strings.Replace(where, "I", "M", 1)+" := 0; END_VAR", 2)
	}
}

// P15.1: 256 variables, and one more: that stands ahead of what is wrong with
// variables, and behind what is wrong with structs.
func TestManyVariables(t *testing.T) {
	vars := func(n int, begin string) string {
		var b strings.Builder
		for i := range n {
			b.WriteString(begin + strconv.Itoa(i) + " : BOOL; ")
		}
		return b.String()
	}
	right(t, "", "VAR "+vars(256, "v")+"END_VAR", 256)
	refused(t, "", "VAR "+vars(256, "v")+"^w : INT; END_VAR", api.ErrRoom)
	refused(t, "", "VAR "+vars(256, "v")+"END_VAR VAR RETAIN ^w : INT; x : INT; "+vars(256, "x")+"END_VAR", api.ErrRoom)
	refused(t, "", "VAR a : INT; a : nope; b AT %QW0 : BOOL := 5; "+vars(253, "v")+"^w : INT; END_VAR", api.ErrRoom)
	refused(t, "s : STRUCT ^x : INT := T#1s; END_STRUCT;", "VAR "+vars(300, "v")+"END_VAR", api.ErrInit)
	refused(t, "", "VAR "+vars(255, "v")+"^v0 : INT; END_VAR", api.ErrTwice)
}

// P15.1: 4096 cells, and one more, of all that has cells; the error stands at
// the first variable with which there are too many.
func TestManyCells(t *testing.T) {
	arrays := func(n int) string {
		var b strings.Builder
		for i := range n {
			b.WriteString("l" + strconv.Itoa(i) + " : ARRAY[1..256] OF BYTE; ")
		}
		return b.String()
	}
	const s = "s : STRUCT a : INT; b : INT; c : INT; END_STRUCT;"
	right(t, s, "VAR "+arrays(16)+"END_VAR", 4096)
	for _, x := range []struct {
		kind  string
		cells int
	}{{"INT", 1}, {"ARRAY[1..256] OF INT", 256}, {"ARRAY[5..5] OF INT", 1}, {"s", 3}, {"TON", 7}, {"CTU", 8}, {"CTUD", 11}, {"R_TRIG", 5}, {"SR", 6}} {
		refused(t, s, "VAR "+arrays(16)+"^a : "+x.kind+"; b : nope; END_VAR", api.ErrRoom)
		room := 256 - x.cells
		if room > 0 {
			right(t, s, "VAR "+arrays(15)+"a : "+x.kind+"; b : ARRAY[1.."+strconv.Itoa(room)+"] OF INT; END_VAR", 4096)
			right(t, s, "VAR "+arrays(15)+"b : ARRAY[1.."+strconv.Itoa(room)+"] OF INT; a : "+x.kind+"; END_VAR", 4096)
			refused(t, s, "VAR "+arrays(15)+"b : ARRAY[0.."+strconv.Itoa(room)+"] OF INT; ^a : "+x.kind+"; END_VAR", api.ErrRoom)
		}
	}
	refused(t, s, "VAR "+arrays(16)+"^b : INT := 40000; END_VAR", api.ErrInit)
	refused(t, s, "VAR "+arrays(16)+"^l3 : INT; END_VAR", api.ErrTwice)
}

// P15.1: where several errors are one variable's, the one that the chapter
// names first is told.
func TestOrder(t *testing.T) {
	full := ""
	for i := range 16 {
		full += "l" + strconv.Itoa(i) + " : ARRAY[1.." + strconv.Itoa(256-i/15) + "] OF BYTE; "
	}
	// One cell is left, and it is taken by a, at %QW0.
	head := "VAR " + full + "a AT %QW0 : INT; "
	const retained = "END_VAR VAR RETAIN "
	for _, x := range []struct {
		s    string
		want api.Errno
	}{
		{"^b : INT; END_VAR", api.ErrRoom},
		{"^b : INT := 40000; END_VAR", api.ErrInit},
		{"^b AT %IW0 : INT := 1; END_VAR", api.ErrInit},
		{"^b AT %QW0 : INT; END_VAR", api.ErrTwice},
		{"^b AT %QW0 : INT := 40000; END_VAR", api.ErrTwice},
		{"^b AT %QW0 : DINT; END_VAR", api.ErrPlace},
		{"^b AT %QW0 : DINT := INT#4; END_VAR", api.ErrPlace},
		{"^b AT %QW0 : TON := 1; END_VAR", api.ErrPlace},
		{"^b AT %QW0 : ARRAY[0..1] OF INT := 1; END_VAR", api.ErrPlace},
		{retained + "^b AT %QW0 : INT; END_VAR", api.ErrPlace},
		{"^b AT %QW0 : nope := 1; END_VAR", api.ErrType},
		{"^b AT %QW0 : ARRAY[1..0] OF INT := 1; END_VAR", api.ErrType},
		{retained + "^b AT %QW0 : nope := 1; END_VAR", api.ErrType},
		{"^b : nope; END_VAR", api.ErrType},
		{"^a AT %QW1 : nope := 1; END_VAR", api.ErrTwice},
		{"^a : nope; END_VAR", api.ErrTwice},
		{"^a AT %QX0.0 : INT; END_VAR", api.ErrTwice},
		{"^a : INT := 40000; END_VAR", api.ErrTwice},
		{"^TON : TON := 1; END_VAR", api.ErrTwice},
		{"^b : INT; b : nope; END_VAR", api.ErrRoom},
		{"^b : nope; a : INT; END_VAR", api.ErrType},
	} {
		refused(t, "", head+x.s, x.want)
	}
}

// P15.3: TypeOf tells types as they are declared, whatever else is wrong;
// FieldOf tells fields and pins, of no other types.
func TestTypeOf(t *testing.T) {
	p, _ := declared(t, "s : STRUCT x : INT; y : TIME := T#1s; END_STRUCT; u : STRUCT x : BYTE; END_STRUCT;",
		"VAR RETAIN a : INT := 3; l : ARRAY[-1..4] OF WORD; END_VAR VAR q : s; t : TON; b AT %IX0.0 : BOOL; n : nope; a : BOOL; END_VAR")
	for _, x := range []struct {
		name string
		want api.Type
	}{{"a", api.Type{Kind: api.KInt}}, {"l", api.Type{Kind: api.KArray, Lo: -1, Hi: 4, Elem: api.KWord}}, {"q", api.Type{Name: "s"}}, {"t", api.Type{Name: "TON"}}, {"b", api.Type{Kind: api.KBool}}, {"n", api.Type{Name: "nope"}}} {
		if got, ok := TypeOf(p, x.name); got != x.want || !ok {
			t.Errorf("P15.3: TypeOf(%s): %v, %v; want %v", x.name, got, ok, x.want)
		}
	}
	for _, name := range []string{"", "A", "s", "x", "TON", "p", "aa", "nope", "\xff"} {
		if got, ok := TypeOf(p, name); got != (api.Type{}) || ok {
			t.Errorf("P15.3: TypeOf(%q): %v, %v", name, got, ok)
		}
	}
	for _, x := range []struct {
		t     api.Type
		field string
		want  int
	}{
		{api.Type{Name: "s"}, "x", api.KInt}, {api.Type{Name: "s"}, "y", api.KTime}, {api.Type{Name: "u"}, "x", api.KByte}, {api.Type{Kind: api.KStruct, Name: "s"}, "y", api.KTime},
		{api.Type{Name: "u"}, "y", 0}, {api.Type{Name: "s"}, "X", 0}, {api.Type{Name: "s"}, "", 0}, {api.Type{Name: "s"}, "1", 0}, {api.Type{Name: "S"}, "x", 0}, {api.Type{Name: ""}, "x", 0}, {api.Type{Name: "q"}, "x", 0}, {api.Type{Name: "nope"}, "x", 0},
		{api.Type{Name: "TON"}, "ET", api.KTime}, {api.Type{Name: "TON"}, "1", 0}, {api.Type{Name: "TON"}, "2", 0}, {api.Type{Name: "TON"}, "3", 0}, {api.Type{Name: "TON"}, "x", 0}, {api.Type{Name: "TON"}, "", 0}, {api.Type{Name: "t"}, "ET", 0},
		{api.Type{Kind: api.KInt}, "x", 0}, {api.Type{Kind: api.KInt}, "", 0}, {api.Type{Kind: api.KArray, Hi: 1, Elem: api.KInt}, "x", 0}, {api.Type{Kind: api.KArray, Hi: 1, Elem: api.KInt}, "", 0},
	} {
		if got, ok := FieldOf(p, x.t, x.field); got != x.want || ok != (x.want != 0) {
			t.Errorf("P15.3: FieldOf(%v, %q): %d, %v; want %d", x.t, x.field, got, ok, x.want)
		}
	}
}

// P15.3, P15.4: of all names, fields and indices just those of a cell find it,
// and each cell is found.
func TestFind(t *testing.T) {
	p, _ := declared(t, "s : STRUCT x : SINT; y : TIME; Q : BOOL; END_STRUCT; u : STRUCT x : WORD; END_STRUCT;",
		"VAR a : INT; l : ARRAY[-2..1] OF TIME; q : s; t : TON; r : u; k : ARRAY[3..3] OF BOOL; c : CTUD; x : BOOL; z : R_TRIG; END_VAR")
	m := newModel(p)
	indices := []int{math.MinInt, -1 << 32, -3, -2, -1, 0, 1, 2, 3, 4, 1<<32 + 1, math.MaxInt}
	found := map[int]int{}
	for _, name := range []string{"a", "l", "q", "t", "r", "k", "c", "x", "z", "s", "u", "y", "", "A", "TON", "p", "a.x", "l[0]"} {
		for _, field := range []string{"", "x", "y", "Q", "IN", "PT", "ET", "1", "2", "3", "CU", "CD", "R", "LD", "PV", "QU", "QD", "CV", "CLK", "0", "4", "in", "a"} {
			hits := map[int]int{}
			for _, index := range indices {
				want := m.wantNumber(name, field, index)
				got := Find(p, name, field, index)
				if got != want {
					t.Errorf("P15.3: Find(%q, %q, %d): %d; want %d", name, field, index, got, want)
				}
				hits[got]++
			}
			delete(hits, -1)
			for n, times := range hits {
				found[n]++
				if array := name == "l" || name == "k"; array && times != 1 || !array && times != len(indices) {
					t.Errorf("P15.3: %q, %q: cell %d at %d indices", name, field, n, times)
				}
			}
		}
	}
	for n := range Cells(p) {
		if found[n] != 1 {
			t.Errorf("P15.4: cell %d is found by %d names", n, found[n])
		}
	}
	if len(found) != len(Cells(p)) {
		t.Errorf("P15.4: %d of %d cells", len(found), len(Cells(p)))
	}
}

// DOC.md, 9: trees that no text is read as, of which the chapter has no cells,
// are refused.
func TestNoTexts(t *testing.T) {
	one := []api.Expr{{Op: api.ExLit, N: 1}}
	structs := []api.Struct{{Name: "s", Fields: []api.Var{{Name: "x", T: api.Type{Kind: api.KInt}}}}}
	for i, v := range []api.Var{
		{T: api.Type{}}, {T: api.Type{Kind: -1}}, {T: api.Type{Kind: 99}}, {T: api.Type{Kind: api.KStruct}}, {T: api.Type{Kind: api.KFb}}, {T: api.Type{Kind: api.KFb, Name: "s"}}, {T: api.Type{Kind: api.KStruct, Name: "TON"}}, {T: api.Type{Kind: 99, Name: "TON"}}, {T: api.Type{Kind: api.KInt, Name: "TON"}}, {T: api.Type{Kind: api.KInt, Name: "s"}},
		{T: api.Type{Kind: api.KArray, Hi: 1}}, {T: api.Type{Kind: api.KArray, Hi: 1, Elem: api.KArray}}, {T: api.Type{Kind: api.KArray, Hi: 1, Elem: api.KStruct, Name: "s"}}, {T: api.Type{Kind: api.KArray, Hi: 1, Elem: api.KInt, Name: "TON"}}, {T: api.Type{Kind: api.KArray, Hi: 1, Elem: -3}},
		{T: api.Type{Kind: api.KInt}, Addr: "%QW64"}, {T: api.Type{Kind: api.KInt}, Addr: "QW0"}, {T: api.Type{Kind: api.KBool}, Addr: "%QX0.8"}, {T: api.Type{Kind: api.KBool}, Addr: " "}, {T: api.Type{Kind: api.KInt}, Addr: "x", Init: one},
		{T: api.Type{Kind: api.KInt}, Init: append(one, one...)}, {T: api.Type{Kind: api.KInt}, Init: []api.Expr{{}}}, {T: api.Type{Kind: api.KInt}, Init: []api.Expr{{Op: api.ExVar, Name: "x"}}}, {T: api.Type{Kind: api.KInt}, Init: []api.Expr{{Op: api.ExNeg}}}, {T: api.Type{Kind: api.KInt}, Init: []api.Expr{{Op: api.ExNeg, L: append(one, one...)}}}, {T: api.Type{Kind: api.KInt}, Init: []api.Expr{{Op: api.ExNeg, L: []api.Expr{{Op: api.ExNeg, L: one}}}}}, {T: api.Type{Kind: api.KInt}, Init: []api.Expr{{Op: api.ExNot, L: one}}}, {T: api.Type{Kind: api.KInt}, Init: []api.Expr{{Op: api.ExAdd, L: append(one, one...)}}}, {T: api.Type{Kind: api.KInt}, Init: []api.Expr{{Op: api.ExLit, Kind: -1}}}, {T: api.Type{Kind: api.KInt}, Init: []api.Expr{{Op: api.ExLit, Kind: 99}}},
	} {
		v.Name, v.At = "a", 9
		p := api.Prog{Structs: structs, Vars: []api.Var{v}}
		if x, ok := Check(p).(*api.PlaceError); !ok || x.At != 9 || len(Cells(p)) != 0 || Find(p, "a", "", 0) != -1 {
			t.Errorf("P15.1: variable %d: %v, %v", i, Check(p), Cells(p))
		}
		p = api.Prog{Structs: []api.Struct{structs[0], {Name: "u", Fields: []api.Var{v}}}}
		if x, ok := Check(p).(*api.PlaceError); !ok || x.At != 9 {
			t.Errorf("P15.1: field %d: %v", i, Check(p))
		}
	}
	for i, f := range []api.Var{{T: api.Type{Kind: api.KArray, Hi: 1, Elem: api.KInt}}, {T: api.Type{Name: "s"}}, {T: api.Type{Name: "TON"}}, {T: api.Type{Kind: api.KInt}, Addr: "%QW0"}} {
		f.Name, f.At = "x", 9
		p := api.Prog{Structs: []api.Struct{structs[0], {Name: "u", Fields: []api.Var{f}}}, Vars: []api.Var{{Name: "a", T: api.Type{Name: "u"}}}}
		if x, ok := Check(p).(*api.PlaceError); !ok || x.At != 9 || len(Cells(p)) != 0 {
			t.Errorf("P15.1: field %d: %v, %v", i, Check(p), Cells(p))
		}
	}
}

// P15.2 of trees: an empty list is none, a typed number is wrapped, and a kind
// beside a name tells what the name does.
func TestTreesTaken(t *testing.T) {
	structs := []api.Struct{{Name: "s", Fields: []api.Var{{Name: "x", T: api.Type{Kind: api.KInt}, Init: []api.Expr{}}}}}
	for _, x := range []struct {
		v    api.Var
		want []api.Cell
	}{
		{api.Var{T: api.Type{Kind: api.KInt}, Init: []api.Expr{}}, []api.Cell{{Index: -1, Kind: api.KInt}}},
		{api.Var{T: api.Type{Kind: api.KInt}, Addr: "%IW1", Init: []api.Expr{}}, []api.Cell{{Index: -1, Kind: api.KInt, Area: api.AreaIW, Offset: 1}}},
		{api.Var{T: api.Type{Kind: api.KSint}, Init: []api.Expr{{Op: api.ExLit, Kind: api.KSint, N: 200}}}, []api.Cell{{Index: -1, Kind: api.KSint, Init: -56}}},
		{api.Var{T: api.Type{Kind: api.KBool}, Init: []api.Expr{{Op: api.ExLit, Kind: api.KBool, N: 2}}}, []api.Cell{{Index: -1, Kind: api.KBool, Init: 1}}},
		{api.Var{T: api.Type{Kind: api.KStruct, Name: "s"}}, []api.Cell{{Field: "x", Index: -1, Kind: api.KInt}}},
		{api.Var{T: api.Type{Kind: api.KFb, Name: "R_TRIG"}}, []api.Cell{{Field: "CLK", Index: -1, Kind: api.KBool}, {Field: "Q", Index: -1, Kind: api.KBool}, {Field: "1", Index: -1, Kind: api.KDint}, {Field: "2", Index: -1, Kind: api.KDint}, {Field: "3", Index: -1, Kind: api.KDint}}},
	} {
		x.v.Name = "a"
		p := api.Prog{Structs: structs, Vars: []api.Var{x.v}}
		if e, cells := Check(p), Cells(p); e != nil || !slices.Equal(cells, x.want) {
			t.Errorf("P15.2: %+v: %v, %v; want %v", x.v, e, cells, x.want)
		}
	}
}
