package lowst_test

import (
	"fmt"
	"slices"
	"strings"
	"testing"

	"rung/api"
	"rung/code"
	"rung/lowst"
	"rung/st"
)

const vars = "TYPE s:STRUCT x:INT;END_STRUCT;END_TYPE PROGRAM p VAR i:INT;j:INT;b:BOOL;w:WORD;u:UINT;q:s;c:CTUD;a:ARRAY[0..9]OF INT;END_VAR "

// pieces are statements of all sorts, with # a number that is another each time.
var pieces = []string{
	"i:=1;",
	"i:=j;",
	"b:=i<j;",
	"q.x:=-i;",
	"a[i]:=j;",
	"a[i]:=a[j];",
	"a[a[i]]:=a[a[a[j]]];",
	"w:=ROL(w,u);",
	"i:=LIMIT(i,j,i);",
	"i:=SEL(b,i,j);",
	"b:=NOT(i=j)OR b;",
	"c();",
	"c(CU:=b);",
	"c(CU:=b,CD:=b,R:=b,LD:=b,PV:=i);",
	"IF b THEN END_IF;",
	"IF b THEN ELSE END_IF;",
	"IF b THEN ELSIF b THEN ELSIF b THEN ELSE END_IF;",
	"WHILE b DO END_WHILE;",
	"WHILE b DO EXIT;END_WHILE;",
	"REPEAT UNTIL b END_REPEAT;",
	"FOR i:=1 TO j DO END_FOR;",
	"FOR i:=j TO j BY j DO END_FOR;",
	"FOR i:=j TO j BY-1 DO EXIT;END_FOR;",
	"FOR i:=j TO j BY i DO FOR i:=j TO j BY j DO END_FOR;END_FOR;",
	"CASE i OF 1:END_CASE;",
	"CASE i OF 1..3:END_CASE;",
	"CASE i OF 1:ELSE END_CASE;",
	"CASE i OF 1:2:3..4:5:END_CASE;",
	"CASE i OF 3,5,7,9:0..99:END_CASE;",
	"RETURN;",
}

// long: statements of as many parts as there is room for.
var long = []struct {
	begin, end string
	part       func(i int) string
}{
	{"i:=i", ";", func(int) string { return "+i" }},
	{"b:=b", ";", func(int) string { return " AND i<j" }},
	{"i:=", ";", func(int) string { return "a[i]/" }},
	{"IF b THEN ", "END_IF;", func(int) string { return "ELSIF b THEN " }},
	{"IF b THEN ", "ELSE END_IF;", func(int) string { return "i:=1;ELSIF i=j THEN " }},
	{"WHILE b DO ", "END_WHILE;", func(int) string { return "EXIT;" }},
	{"CASE i OF 0", ":END_CASE;", func(i int) string { return fmt.Sprint(",", 2*i+2) }},
	{"CASE i OF 0", ":i:=1;0..9999:END_CASE;", func(i int) string { return fmt.Sprint(",", 2*i+2) }},
	{"CASE i OF 0", ":END_CASE;", func(i int) string { return fmt.Sprintf(",%d..%d", 4*i+2, 4*i+4) }},
	{"CASE i OF 0:", "-9..9999:END_CASE;", func(i int) string { return fmt.Sprintf("%d..%d:", 4*i+2, 4*i+4) }},
	{"CASE i OF 0:", "0..9999:END_CASE;", func(i int) string { return fmt.Sprint(2*i+2, ":") }},
	{"CASE i OF ", "0:END_CASE;", func(i int) string { return fmt.Sprintf("%d..%d:", 3000-i, 3000+i) }},
	{"CASE i OF 0:", "ELSE END_CASE;", func(i int) string { return fmt.Sprint("i:=1;", 2*i+2, ":") }},
}

// most tells the longest of the texts made of more and more parts that may still
// be.
func most(made func(parts int) string, may func(text string) bool) string {
	n := 1
	for may(made(n)) {
		n *= 2
	}
	n /= 2
	for step := n / 2; step > 0; step /= 2 {
		if may(made(n + step)) {
			n += step
		}
	}
	return made(n)
}

// made tells all texts of pieces, and of what is long, as long as they may be.
func made(may func(text string) bool) []string {
	var all []string
	for _, piece := range pieces {
		all = append(all, most(func(n int) string { return vars + strings.Repeat(piece, n) + "END_PROGRAM" }, may))
	}
	for _, x := range long {
		all = append(all, most(func(n int) string {
			text := vars + x.begin
			for i := range n {
				text += x.part(i)
			}
			if strings.HasSuffix(text, "/") {
				text += "i"
			}
			return text + x.end + "END_PROGRAM"
		}, may))
	}
	return all
}

// takes fails, unless there is room for a program; its scans are as they should.
func takes(t *testing.T, text string) {
	t.Helper()
	c, p, err := lowst.Compile(text)
	if err != nil {
		t.Errorf("P22.1: %.150s .. of %d bytes, %d statements and expressions: %v", text, len(text), sizeOf(p), err)
		return
	}
	right(t, c, p)
	v := machine(t, c)
	for _, cells := range [][]int64{nil, {1, 2, 1, 7, 3, 5}, {2, 1, 0, 7, 3, 5}, {-1, -1}, {8, 9, 1}, {1000, 1}} {
		for _, most := range []int{1, 100, 2000} {
			same(t, v, p, text[:min(len(text), 300)], cells, 0, most)
		}
	}
}

// P22.1: room for 1000 statements and expressions, whatever they are.
func TestRoomForMany(t *testing.T) {
	may := func(text string) bool {
		p, err := st.Parse(text)
		if err != nil {
			t.Fatalf("%.150s: %v", text, err)
		}
		return sizeOf(p) <= 1000
	}
	for _, text := range made(may) {
		takes(t, text)
	}
}

// P22.1: room for what 2500 bytes tell, whatever it is.
func TestRoomForText(t *testing.T) {
	for _, text := range made(func(text string) bool { return len(text) <= 2500 }) {
		takes(t, text)
	}
	nothing := "PROGRAM p END_PROGRAM"
	takes(t, nothing+strings.Repeat(" ", 2500-len(nothing)))
	// Labels of one byte, of no numbers but ten; the shortest names.
	takes(t, "PROGRAM p VAR i:INT;END_VAR CASE i OF "+strings.Repeat("1:", 1200)+"END_CASE;END_PROGRAM")
	takes(t, "PROGRAM p VAR i:INT;END_VAR CASE i OF "+strings.Repeat("1,2,0..9,", 260)+"7:i:=1;END_CASE;END_PROGRAM")
}

// P22.1: ErrRoom just where there are more than MaxCode instructions.
func TestMuchCode(t *testing.T) {
	for _, piece := range pieces {
		fits := func(n int) bool {
			text := vars + strings.Repeat(piece, n) + "END_PROGRAM"
			if len(text) > api.MaxText {
				return false
			}
			c, p, err := lowst.Compile(text)
			if err == nil {
				right(t, c, p)
			} else if !wrongAt(err, 0, api.ErrRoom) || !isNone(c) || p.Name != "" {
				t.Fatalf("P22.1: %s %d times: %v", piece, n, err)
			}
			return err == nil
		}
		one, _ := compiledText(t, vars+piece+"END_PROGRAM")
		two, _ := compiledText(t, vars+piece+piece+"END_PROGRAM")
		each := len(two.L) - len(one.L)
		n := (api.MaxCode - len(one.L)) / each
		for _, k := range []int{n, n + 1, n + 2} {
			if len(vars)+(k+1)*len(piece)+11 <= api.MaxText && fits(k+1) != (k <= n) {
				t.Errorf("P22.1: %s %d times, each of %d instructions: %v", piece, k+1, each, k > n)
			}
		}
	}
}

func compiledText(t *testing.T, text string) (api.Code, api.Prog) {
	t.Helper()
	c, p, err := lowst.Compile(text)
	if err != nil {
		t.Fatalf("%s: %v", text, err)
	}
	return c, p
}

// P22.1: just MaxCode instructions, and one more; and far more than that.
func TestMaxCode(t *testing.T) {
	p, err := st.Parse("PROGRAM p VAR x : INT; END_VAR RETURN; x := x; END_PROGRAM")
	if err != nil {
		t.Fatal(err)
	}
	size := func(l ...api.Stmt) int {
		p.Body = l
		c, err := lowst.Lower(p)
		if err != nil {
			t.Fatal(err)
		}
		return len(c.L)
	}
	leave, assign := p.Body[0], p.Body[1]
	least := size()
	two, three := size(leave)-least, size(assign)-least
	if two >= three {
		t.Fatalf("a RETURN is %d instructions, an assignment %d", two, three)
	}
	for many := api.MaxCode - 3; many <= api.MaxCode+4; many++ {
		rest := many - least
		var l []api.Stmt
		for rest%three != 0 && rest >= two {
			l = append(l, leave)
			rest -= two
		}
		if rest%three != 0 {
			t.Fatalf("%d can't be made of %d and %d", many, two, three)
		}
		p.Body = append(l, slices.Repeat([]api.Stmt{assign}, rest/three)...)
		c, err := lowst.Lower(p)
		switch {
		case many <= api.MaxCode && (err != nil || len(c.L) != many || code.Verify(c) != nil):
			t.Errorf("P22.1: %d instructions: %v, %d", many, err, len(c.L))
		case many > api.MaxCode && (!wrongAt(err, 0, api.ErrRoom) || !isNone(c)):
			t.Errorf("P22.1: %d instructions: %v, %d", many, err, len(c.L))
		}
	}
	for _, s := range []api.Stmt{leave, assign, {Op: api.StIf, Arms: slices.Repeat([]api.Arm{{E: []api.Expr{{Op: api.ExLit, N: 1}}, Body: []api.Stmt{assign}}}, 3)}} {
		p.Body = slices.Repeat([]api.Stmt{s}, 200000)
		if c, err := lowst.Lower(p); !wrongAt(err, 0, api.ErrRoom) || !isNone(c) {
			t.Errorf("P22.1: far too much: %v", err)
		}
	}
}

// nest puts programs' parts into one another, so many times.
func nest(n int, begin, inner, end string) string {
	return strings.Repeat(begin, n) + inner + strings.Repeat(end, n)
}

// P22.1: room for what keeps 100 numbers, in all ways to keep them.
func TestRoomOnStack(t *testing.T) {
	v := func(name string) api.Expr { return api.Expr{Op: api.ExVar, Name: name} }
	call := func(name string, l ...api.Expr) api.Expr { return api.Expr{Op: api.ExCall, Name: name, L: l} }
	kinds := map[string]func(api.Expr) api.Expr{
		"sum": func(e api.Expr) api.Expr { return api.Expr{Op: api.ExAdd, L: []api.Expr{v("i"), e}} },
		"sel": func(e api.Expr) api.Expr { return call("SEL", v("b"), v("j"), e) },
		"lim": func(e api.Expr) api.Expr { return call("LIMIT", v("i"), v("j"), e) },
		"max": func(e api.Expr) api.Expr { return call("MAX", v("j"), e) },
		"neg": func(e api.Expr) api.Expr { return api.Expr{Op: api.ExNeg, L: []api.Expr{e}} },
		"at":  func(e api.Expr) api.Expr { return api.Expr{Op: api.ExVar, Name: "a", L: []api.Expr{e}} },
	}
	wraps := map[string]func(e api.Expr, body []api.Stmt) api.Stmt{
		"assign": func(e api.Expr, _ []api.Stmt) api.Stmt {
			return api.Stmt{Op: api.StAssign, V: v("i"), E: []api.Expr{e}}
		},
		"target": func(e api.Expr, _ []api.Stmt) api.Stmt {
			return api.Stmt{Op: api.StAssign, V: kinds["at"](e), E: []api.Expr{v("j")}}
		},
		"element": func(e api.Expr, _ []api.Stmt) api.Stmt {
			return api.Stmt{Op: api.StAssign, V: kinds["at"](v("i")), E: []api.Expr{e}}
		},
		"from": func(e api.Expr, l []api.Stmt) api.Stmt {
			return api.Stmt{Op: api.StFor, V: v("i"), E: []api.Expr{e, v("j")}, Body: l}
		},
		"by": func(e api.Expr, l []api.Stmt) api.Stmt {
			return api.Stmt{Op: api.StFor, V: v("i"), E: []api.Expr{v("i"), v("j"), e}, Body: l}
		},
		"case": func(e api.Expr, l []api.Stmt) api.Stmt {
			label := [2]api.Expr{{Op: api.ExLit, N: 1}, {Op: api.ExLit, N: 9}}
			return api.Stmt{Op: api.StCase, E: []api.Expr{e}, Arms: []api.Arm{{Labels: [][2]api.Expr{label}, Body: l}, {Body: l}}}
		},
		"call": func(e api.Expr, _ []api.Stmt) api.Stmt {
			var args []api.Arg
			for _, pin := range []string{"CU", "CD", "R", "LD"} {
				args = append(args, api.Arg{Name: pin, E: v("b")})
			}
			return api.Stmt{Op: api.StCall, V: v("c"), Args: append(args, api.Arg{Name: "PV", E: e})}
		},
		"while": func(e api.Expr, l []api.Stmt) api.Stmt {
			test := api.Expr{Op: api.ExLt, L: []api.Expr{v("j"), e}}
			return api.Stmt{Op: api.StWhile, E: []api.Expr{test}, Body: append(slices.Clone(l), api.Stmt{Op: api.StExit})}
		},
		"if": func(e api.Expr, l []api.Stmt) api.Stmt {
			return api.Stmt{Op: api.StIf, Arms: []api.Arm{{E: []api.Expr{{Op: api.ExEq, L: []api.Expr{v("i"), e}}}, Body: l}, {Body: l}}}
		},
	}
	empty, err := st.Parse(vars + "END_PROGRAM")
	if err != nil {
		t.Fatal(err)
	}
	all, greatest := 0, 0
	for name, wrap := range wraps {
		for kind, around := range kinds {
			for _, loops := range []int{0, 1, 8, 16, 20, 23} {
				p := empty
				e := v("j")
				for depth := 1; depth < 2*api.MaxDepth; depth++ {
					body := []api.Stmt{wrap(e, nil)}
					for range loops {
						body = []api.Stmt{wraps["by"](v("j"), body)}
					}
					p.Body = []api.Stmt{wrap(v("j"), body), body[0]}
					kept := keeps(p)
					if kept > 100 {
						break
					}
					greatest = max(greatest, kept)
					c, err := lowst.Lower(p)
					if err != nil {
						t.Fatalf("P22.1: %s of %s, %d deep in %d loops keeps %d: %v", name, kind, depth, loops, kept, err)
					}
					all++
					if depth%16 == 0 {
						right(t, c, p)
						same(t, machine(t, c), p, name+" of "+kind, []int64{1, 1, 1}, 0, 60)
					}
					e = around(e)
				}
			}
		}
	}
	if all < 4000 || greatest != 100 {
		t.Errorf("%d programs, that keep up to %d", all, greatest)
	}
}

// P22.1: as deep as texts may be.
func TestDeepTexts(t *testing.T) {
	const d = api.MaxDepth - 1
	for _, text := range []string{
		nest(d, "FOR i:=j TO j BY j DO ", "i:="+nest(d, "SEL(b,i,", "j", ")")+";", "END_FOR;"),
		nest(d, "FOR i:=1 TO 2 DO ", "a["+nest(d-1, "i+(", "j", ")")+"]:="+nest(d, "i+(", "j", ")")+";", "END_FOR;"),
		nest(d, "CASE i OF 1:", "i:="+nest(d, "LIMIT(j,i,", "j", ")")+";", "END_CASE;"),
		nest(d, "WHILE b DO ", "c(CU:=b,CD:=b,R:=b,LD:=b,PV:="+nest(d, "a[", "j", "]")+");", "END_WHILE;"),
		nest(d, "IF b THEN ", "b:="+nest(d, "NOT ", "b", "")+";", "END_IF;"),
		nest(d, "REPEAT ", "", "UNTIL "+nest(d, "(", "i=j", ")")+" END_REPEAT;"),
	} {
		takes(t, vars+text+"END_PROGRAM")
	}
}

// P22.1: ErrRoom where the stack would be above MaxStack, and where it would not
// all is well.
func TestStack(t *testing.T) {
	p, err := st.Parse(vars + "i := i; END_PROGRAM")
	if err != nil {
		t.Fatal(err)
	}
	i := p.Body[0].E[0]
	e := i
	refused := 0
	for n := 1; n <= api.MaxStack+40; n++ {
		p.Body[0].E = []api.Expr{e}
		c, err := lowst.Lower(p)
		switch {
		case n <= api.MaxStack:
			if err != nil || deepest(t, c) != n {
				t.Fatalf("P22.1: %d numbers: %v", n, err)
			}
		case !wrongAt(err, 0, api.ErrRoom) || !isNone(c):
			t.Fatalf("P22.1: %d numbers: %v", n, err)
		default:
			refused++
		}
		e = api.Expr{Op: api.ExAdd, L: []api.Expr{i, e}}
	}
	if refused != 40 {
		t.Errorf("P22.1: %d were refused", refused)
	}
}
