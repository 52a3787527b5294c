package lowil_test

import (
	"fmt"
	"slices"
	"strings"
	"testing"

	"rung/api"
	"rung/code"
	"rung/il"
	"rung/lowil"
)

const tight = "PROGRAM p VAR i:INT;b:BOOL;c:CTUD;f:ARRAY[0..9]OF BOOL;a:ARRAY[0..9]OF INT;END_VAR\n"

// pieces: lines, with # a number that is another each time; those of them ahead
// of a star stand once.
var pieces = []string{
	"LD i", "LD a[i]", "LD a[a[a[a[i]]]]", "LDN f[i]", "LD a[i+i+i+i+i+i+i+i+i+i+i+i+i+i+i]", "LD a[LIMIT(i,i,i)]",
	"LD i|ST i|ST a[1]", "LD i|ST a[i]", "LDN b|STN b", "LDN b|STN f[i]", "LD b|S b|R b", "LD b|S f[i]|R f[i]",
	"LD i|ADD i", "LD i|DIV a[i]|LT a[i]", "LD b|ANDN f[i]|NOT", "LD i|GT( i|)", "LD b|ORN(|LD f[i]|)",
	"JMP l#|l#:", "l#:", "l#: JMP l#", "LD b|JMPC l#|l#:", "LD b|JMPCN l#|NOT|l#:", "RET", "LD b|RETC", "LD b|RETCN|NOT",
	"CAL c()", "CAL c(CU:=b,CD:=b,R:=b,LD:=b,PV:=a[i])", "LD b|CALC c(CU:=f[i],CD:=f[i],R:=f[i],LD:=f[i],PV:=i)", "LD b|CALCN c()|NOT",
	"LD i*ST a[i]", "LD i*ADD a[i]", "LD i*ADD( a[i]|)", "LD b*STN f[i]", "LD b*S f[i]", "LD b*R f[i]", "LD b*XORN f[i]", "LD b*XORN( f[i]|NOT|)",
	"LD b*NOT", "z: LD b*JMPC z", "z: LD b*JMPCN z", "LD b*RETC", "LD b*RETCN", "LD b*CALC c(PV:=a[i])", "LD b*CALCN c(CU:=f[i])",
}

// filled tells a text of a piece as often as it may stand in one.
func filled(piece string, may func(text string) bool) string {
	once, often, ok := strings.Cut(piece, "*")
	if !ok {
		once, often = "", piece
	}
	const end = "\nEND_PROGRAM"
	text := tight + once
	for i := 0; ; i++ {
		more := text + "\n" + strings.ReplaceAll(often, "#", fmt.Sprint(i))
		if !may(strings.ReplaceAll(more+end, "|", "\n")) {
			return strings.ReplaceAll(text+end, "|", "\n")
		}
		text = more
	}
}

// fits fails, unless there is room for a program; its scans are as they should.
func fits(t *testing.T, text string) {
	t.Helper()
	c, p, err := lowil.Compile(text)
	if err != nil {
		t.Errorf("P23.1: %.200q .. of %d bytes: %v", text, len(text), err)
		return
	}
	v := holds(t, c, p)
	for _, cells := range [][]int64{nil, {1, 1}, {1, 0}, {9, 1}, {-1}, {0, 1}} {
		for _, most := range []int{1, 50, 3000} {
			alike(t, v, p, cells, 0, most)
		}
	}
}

// P23.1: room for 1000 instructions, whatever they are, and for what 2500 bytes
// tell.
func TestRoom(t *testing.T) {
	bytes := func(text string) bool { return len(text) <= 2500 }
	instructions := func(text string) bool { return strings.Count(text, "\n")-1 <= 1000 }
	for _, piece := range pieces {
		fits(t, filled(piece, bytes))
		text := filled(piece, instructions)
		if p, err := il.Parse(text); err != nil || len(p.Code) > 1000 || len(p.Code) < 995 {
			t.Errorf("%q: %d, %v", piece, len(p.Code), err)
		}
		fits(t, text)
	}
	long := func(begin, part, end string) string {
		n := (2500 - len(tight) - len(begin) - len(end) - len("\nEND_PROGRAM")) / len(part)
		return tight + begin + strings.Repeat(part, n) + end + "\nEND_PROGRAM"
	}
	fits(t, long("LD a[i", "+i", "]"))
	fits(t, long("LD a[i", "/a[i]", "]\nST i"))
	fits(t, long("CAL c(PV:=a[i", "*i", "])"))
	fits(t, long("LD b\nS f[0", "+i", "]\nR b"))
	fits(t, long("LD a[", "LIMIT(i,i,i)+", "i]"))
	fits(t, long("", " ", ""))
}

// kept tells an index that has as many numbers on the stack as one of a text's
// can have: six for each of its depths.
func kept() string {
	n := api.MaxDepth - 2 // It is 2 deep itself; its depths are the calls' operands.
	return "i+i*" + strings.Repeat("BOOL_TO_INT(b OR b XOR b AND i=i+i*", n) + "i" + strings.Repeat(")", n)
}

// P23.1: 50 brackets that are open, and in them what has most on the stack.
func TestRoomOnStack(t *testing.T) {
	index := kept()
	if _, err := il.Parse(tight + "LD a[BOOL_TO_INT(" + "b OR b XOR b AND i=i+i*" + index + ")]\nEND_PROGRAM"); err == nil {
		t.Fatal("an index may be deeper")
	}
	for _, x := range []struct{ load, open, within string }{
		{"LD i", "ADD( i", "LD a[!]"}, {"LD i", "SUB( i", "ADD a[!]"}, {"LD i", "MUL( i", "ST a[!]\nADD a[!]"}, {"LD i", "ADD(\nLD i", "ADD( a[!]\nST i\n)"},
		{"LD b", "OR( b", "LDN f[!]\nANDN f[!]"}, {"LD b", "XORN( b", "S f[!]\nR f[!]"}, {"LD b", "AND( b", "STN f[!]\nST f[!]"}, {"LD b", "ORN(\nLD b", "S f[!]\nNOT"},
	} {
		many := 50 - strings.Count(x.within, "(")
		lines := x.load + strings.Repeat("\n"+x.open, many) + "\n" + x.within + strings.Repeat("\n)", many)
		fits(t, tight+strings.ReplaceAll(lines, "!", index)+"\nEND_PROGRAM")
	}
	fits(t, tight+"CAL c(CU := f["+index+"], PV := a["+index+"])\nEND_PROGRAM")
}

// deepest tells how many numbers the code has on the stack at most.
func deepest(t *testing.T, c api.Code) int {
	t.Helper()
	l, err := code.Depths(c)
	if err != nil {
		t.Fatalf("P23.1: %v", err)
	}
	return slices.Max(l)
}

// P23.1: ErrRoom where the stack would be above MaxStack, and where it would not
// all is well.
func TestMaxStack(t *testing.T) {
	for _, open := range []string{"ADD( i", "SUB(\nLD i"} {
		for n := 1; n < api.MaxStack+20; n++ {
			text := tight + "LD i" + strings.Repeat("\n"+open, n) + strings.Repeat("\n)", n) + "\nST i\nEND_PROGRAM"
			c, p, err := lowil.Compile(text)
			switch {
			case n >= api.MaxStack:
				refuses(t, fmt.Sprint(n, " brackets"), c, p, err, api.PlaceError{Err: api.ErrRoom})
			case err != nil || deepest(t, c) != n+1:
				t.Fatalf("P23.1: %d brackets: %v", n, err)
			default:
				v := holds(t, c, p)
				if got := alike(t, v, p, []int64{1}, 0, 9999); open[0] == 'A' && got.cells[0] != int64(n+1) {
					t.Errorf("P23.2: %d brackets: %v", n, got)
				}
			}
		}
	}
}

// P23.1: just MaxCode instructions, and one more; and far more than that.
func TestMaxCode(t *testing.T) {
	p, err := il.Parse(tight + "LD i\nRET\nEND_PROGRAM")
	if err != nil {
		t.Fatal(err)
	}
	load, leave := p.Code[0], p.Code[1]
	size := func(l ...api.Inst) int {
		p.Code = l
		c, err := lowil.Lower(p)
		if err != nil {
			t.Fatal(err)
		}
		return len(c.L)
	}
	least := size()
	each, other := size(load)-least, size(leave)-least
	if each == other {
		t.Fatalf("an instruction of either sort is %d", each)
	}
	for many := api.MaxCode - 4; many <= api.MaxCode+4; many++ {
		rest, l := many-least, []api.Inst{}
		for rest%each != 0 {
			l = append(l, leave)
			rest -= other
		}
		p.Code = append(slices.Repeat([]api.Inst{load}, rest/each), l...)
		c, err := lowil.Lower(p)
		switch {
		case many > api.MaxCode:
			refuses(t, fmt.Sprint(many, " instructions"), c, api.Prog{}, err, api.PlaceError{Err: api.ErrRoom})
		case err != nil || len(c.L) != many:
			t.Errorf("P23.1: %d instructions: %v, %d", many, err, len(c.L))
		default:
			alike(t, holds(t, c, p), p, []int64{3, 1}, 0, 99999)
		}
	}
	jump, label := api.Inst{Op: "JMP", E: []api.Expr{{Op: api.ExVar, Name: "l"}}}, api.Inst{Label: "l"}
	for _, in := range []api.Inst{load, leave, jump} {
		p.Code = append(slices.Repeat([]api.Inst{in}, 300000), label)
		c, err := lowil.Lower(p)
		refuses(t, "far too much", c, api.Prog{}, err, api.PlaceError{Err: api.ErrRoom})
	}
	p.Code = nil // as many labels are no code
	for i := range 300000 {
		p.Code = append(p.Code, api.Inst{Label: fmt.Sprint("l", i)})
	}
	if c, err := lowil.Lower(p); err != nil || len(c.L) != least {
		t.Errorf("P23.1: labels alone: %v, %d", err, len(c.L))
	}
}
