package st

import (
	"errors"
	"math/rand"
	"reflect"
	"slices"
	"strings"
	"testing"

	"rung/api"
	"rung/lex"
)

// rules are P13.1's, as the chapter writes them: {..} any number of times, [..]
// may be there; brackets that are signs stand behind a backslash. An int is
// untyped or typed. What the chapter says of the end of an arm's statements is
// said by next: an arm behind the first one begins with an int or a -.
const rules = `
program: {types} PROGRAM name {vars} {stmt} END_PROGRAM end
types: TYPE {name : STRUCT {name : kind [:= lit] ;} END_STRUCT ;} END_TYPE
vars: VAR [RETAIN] {name [AT addr] : type [:= lit] ;} END_VAR
type: kind | ARRAY \[ bound .. bound \] OF kind | name
kind: BOOL | SINT | INT | DINT | USINT | UINT | UDINT | BYTE | WORD | DWORD | TIME
bound: untyped | - untyped
int: untyped | typed
lit: int | time | - int
stmt: ; | IF expr THEN {stmt} {ELSIF expr THEN {stmt}} [ELSE {stmt}] END_IF ;
stmt: CASE expr OF label {, label} : {stmt} {next {, label} : {stmt}} [ELSE {stmt}] END_CASE ;
stmt: FOR name := expr TO expr [BY expr] DO {stmt} END_FOR ; | WHILE expr DO {stmt} END_WHILE ;
stmt: REPEAT {stmt} UNTIL expr END_REPEAT ; | EXIT ; | RETURN ; | name ( [arg {, arg}] ) ; | var := expr ;
label: lit [.. lit]
next: int [.. lit] | - int [.. lit]
arg: name := expr
var: name [. name | \[ expr \]]
expr: xor {OR xor}
xor: and {XOR and}
and: cmp {AND cmp}
cmp: sum [relation sum]
relation: = | <> | < | > | <= | >=
sum: term {+ term | - term}
term: unary {* unary | / unary | MOD unary}
unary: - unary | NOT unary | primary
primary: int | time | ( expr ) | name ( expr {, expr} ) | var
whole: expr end
`

// terminals tells each terminal, and texts of one token that are it.
func terminals() map[string][]string {
	all := map[string][]string{
		"name": {"x", "T", "TON", "end_if", "_", "TRUE_", strings.Repeat("n", 32)}, "untyped": {"5", "16#FF", "4294967295"}, "typed": {"INT#-5", "TRUE", "BYTE#2#1"},
		"time": {"T#5ms", "TIME#-1h"}, "addr": {"%IX0.0", "%MW63"}, "end": {""},
	}
	for _, s := range strings.Fields(`PROGRAM END_PROGRAM VAR RETAIN END_VAR TYPE END_TYPE STRUCT END_STRUCT ARRAY OF AT IF THEN ELSIF ELSE END_IF CASE END_CASE FOR TO BY DO END_FOR WHILE END_WHILE REPEAT UNTIL END_REPEAT EXIT RETURN AND OR XOR NOT MOD
		BOOL SINT INT DINT USINT UINT UDINT BYTE WORD DWORD TIME := .. <= >= <> => : ; , . ( ) [ ] = < > + - * /`) {
		all[s] = []string{s}
	}
	return all
}

// grammar: rules without repetitions: what each symbol may be made of, which
// ones may be made of nothing, and the terminals.
type grammar struct {
	of        map[string][][]string
	empty     map[string]bool
	terminals map[string][]string
}

func newGrammar() *grammar {
	g := &grammar{map[string][][]string{}, map[string]bool{}, terminals()}
	spaced := strings.NewReplacer(`\[`, " lb ", `\]`, " rb ", "{", " { ", "}", " } ", "[", " [ ", "]", " ] ")
	for _, line := range strings.Split(strings.TrimSpace(rules), "\n") {
		name, right, _ := strings.Cut(line, ": ")
		words := strings.Fields(spaced.Replace(right))
		list, left := g.choices(words)
		if len(left) > 0 {
			panic(line)
		}
		g.of[name] = append(g.of[name], list...)
	}
	for changed := true; changed; {
		changed = false
		for name, list := range g.of {
			for _, l := range list {
				if !g.empty[name] && !slices.ContainsFunc(l, func(s string) bool { return !g.empty[s] }) {
					g.empty[name], changed = true, true
				}
			}
		}
	}
	return g
}

// choices reads what stands up to a closing bracket.
func (g *grammar) choices(words []string) ([][]string, []string) {
	list := [][]string{{}}
	for len(words) > 0 {
		w := words[0]
		words = words[1:]
		last := len(list) - 1
		switch w {
		case "}", "]":
			return list, words
		case "|":
			list = append(list, []string{})
		case "{", "[":
			var inner [][]string
			inner, words = g.choices(words)
			name := "#" + string(rune('a'+len(g.of)%26)) + strings.Repeat("'", len(g.of)/26)
			g.of[name] = [][]string{{}}
			for _, l := range inner {
				if w == "{" {
					l = append([]string{name}, l...)
				}
				g.of[name] = append(g.of[name], l)
			}
			list[last] = append(list[last], name)
		case "lb":
			list[last] = append(list[last], "[")
		case "rb":
			list[last] = append(list[last], "]")
		default:
			list[last] = append(list[last], w)
		}
	}
	return list, nil
}

// item: a symbol's choice, how much of it is read, and from where on.
type item struct {
	name           string
	choice, at, by int
}

// chart: all ways in which the tokens up to now may be read (Earley's).
type chart struct {
	g    *grammar
	sets [][]item
}

func newChart(g *grammar, name string) *chart {
	c := &chart{g: g}
	c.sets = [][]item{c.closed([]item{{name: name}})}
	return c
}

// closed tells a set with all that follows from it.
func (c *chart) closed(set []item) []item {
	seen := map[item]bool{}
	var out []item
	add := func(i item) {
		if !seen[i] {
			seen[i] = true
			out = append(out, i)
		}
	}
	for _, i := range set {
		add(i)
	}
	for n := 0; n < len(out); n++ {
		i := out[n]
		l := c.g.of[i.name][i.choice]
		if i.at < len(l) {
			for k := range c.g.of[l[i.at]] {
				add(item{l[i.at], k, 0, len(c.sets)})
			}
			if c.g.empty[l[i.at]] {
				add(item{i.name, i.choice, i.at + 1, i.by})
			}
			continue
		}
		from := out
		if i.by < len(c.sets) {
			from = c.sets[i.by]
		}
		for _, j := range from {
			if l := c.g.of[j.name][j.choice]; j.at < len(l) && l[j.at] == i.name {
				add(item{j.name, j.choice, j.at + 1, j.by})
			}
		}
	}
	return out
}

// may tells the terminals that may follow.
func (c *chart) may() []string {
	out := map[string]bool{}
	for _, i := range c.sets[len(c.sets)-1] {
		if l := c.g.of[i.name][i.choice]; i.at < len(l) && c.g.of[l[i.at]] == nil {
			out[l[i.at]] = true
		}
	}
	var list []string
	for t := range out {
		list = append(list, t)
	}
	slices.Sort(list)
	return list
}

// read goes on by a terminal that may follow.
func (c *chart) read(terminal string) *chart {
	var set []item
	for _, i := range c.sets[len(c.sets)-1] {
		if l := c.g.of[i.name][i.choice]; i.at < len(l) && l[i.at] == terminal {
			set = append(set, item{i.name, i.choice, i.at + 1, i.by})
		}
	}
	return &chart{c.g, append(slices.Clone(c.sets), c.closed(set))}
}

// terminalOf tells which terminal a token is.
func terminalOf(t api.Token) string {
	switch t.Tok {
	case api.TokName:
		return "name"
	case api.TokTime:
		return "time"
	case api.TokAddr:
		return "addr"
	case api.TokEnd:
		return "end"
	case api.TokInt:
		if t.Kind == 0 {
			return "untyped"
		}
		return "typed"
	}
	return t.Text
}

// told: a text's error, read as a program or as an expression; what stands
// beside an error must be nothing.
func told(t *testing.T, start, text string) error {
	t.Helper()
	if start == "program" {
		p, e := Parse(text)
		if e != nil && !reflect.DeepEqual(p, api.Prog{}) {
			t.Errorf("P13.1: %.200q: %v beside %v", text, p, e)
		}
		return e
	}
	x, e := Expr(text)
	if e != nil && !reflect.DeepEqual(x, api.Expr{}) {
		t.Errorf("P13.1: %.200q: %v beside %v", text, x, e)
	}
	return e
}

// wrong: is it just this error, and of the type that is asked for?
func wrong(e error, at int, want api.Errno) bool {
	x, ok := e.(*api.PlaceError)
	return ok && *x == api.PlaceError{At: at, Err: want} && errors.Is(e, want)
}

// follows holds a text's error, and those of the text with any one token more,
// against the rules; c has read the text.
func follows(t *testing.T, c *chart, start, text string) {
	t.Helper()
	may := c.may()
	for terminal, samples := range c.g.terminals {
		ok := slices.Contains(may, terminal)
		ends := ok && (terminal == "end" || slices.Contains(c.read(terminal).may(), "end"))
		for _, s := range samples {
			longer := text + " " + s
			e := told(t, start, longer)
			switch {
			case !ok && !wrong(e, len(text)+1, api.ErrParse):
				t.Fatalf("P13.1: %q: %v; %s may not stand at %d", longer, e, terminal, len(text)+1)
			case ends && e != nil:
				t.Fatalf("P13.1: %q: %v", longer, e)
			case ok && !ends && !wrong(e, len(longer), api.ErrParse):
				t.Fatalf("P13.1: %q: %v; it may go on behind %d", longer, e, len(longer))
			}
		}
	}
}

// every holds each beginning of a right text, with any one token behind it,
// against the rules.
func every(t *testing.T, g *grammar, start, text string) {
	t.Helper()
	tokens, e := lex.Tokens(text, false)
	if e != nil {
		t.Fatal(e)
	}
	c := newChart(g, start)
	for _, token := range tokens {
		follows(t, c, start, text[:token.At])
		terminal := terminalOf(token)
		if !slices.Contains(c.may(), terminal) {
			t.Fatalf("P13.1: %q isn't right at %d", text, token.At)
		}
		c = c.read(terminal)
	}
	if e := told(t, start, text); e != nil {
		t.Errorf("P13.1: %q: %v", text, e)
	}
}

const whole = "TYPE END_TYPE TYPE p : STRUCT x : INT := -3; y : BOOL; z : TIME := T#1s; END_STRUCT; q : STRUCT END_STRUCT; END_TYPE\n" +
	"PROGRAM main VAR END_VAR VAR a AT %QW0 : INT := 5; l : ARRAY[-2..7] OF BYTE; t1 : TON; END_VAR VAR RETAIN q : p := INT#1; END_VAR\n" +
	"; a := 1; q.x := a; l[a + 1] := 2;\n" +
	"IF a = 1 THEN EXIT; ELSIF b THEN ; ELSIF c THEN ELSE RETURN; END_IF;\n" +
	"CASE a OF T#1s, 1, -2..3: a := 1; IF a THEN ; END_IF; INT#4: ; -1..-INT#1, T#1s..T#2s: ELSE a := 2; END_CASE; CASE a OF 1: END_CASE;\n" +
	"FOR a := 1 TO 5 BY 2 DO END_FOR; FOR a := 1 TO 2 DO ; END_FOR;\n" +
	"WHILE a DO a := 1; END_WHILE; REPEAT a := 2; UNTIL TRUE END_REPEAT;\n" +
	"t1(); t1(IN := TRUE, PT := T#1s);\nEND_PROGRAM "

// P13.1: what may stand behind each beginning of a text, and what may not.
func TestEveryToken(t *testing.T) {
	g := newGrammar()
	every(t, g, "program", whole)
	every(t, g, "program", "PROGRAM p END_PROGRAM")
	for _, s := range []string{
		"a", "5", "INT#-5", "T#5s", "- - NOT NOT a", "(a)", "a.b", "a[1]", "f(a)", "f(a, b[c], g(1))",
		"a OR b OR c XOR d XOR e AND f AND g = h + i + j - k * l / m MOD n", "a <> b AND c < d OR e > f XOR (g <= h) AND i >= j", "- a + (- b) * NOT c[- d] - T#-5s",
	} {
		every(t, g, "whole", s)
	}
}

// P13.1: texts that are gone on with by any token that may follow, and at each
// place by all others.
func TestAnyWalk(t *testing.T) {
	g := newGrammar()
	r := rand.New(rand.NewSource(13))
	for n := range 60 {
		start, text := "program", ""
		if n%4 == 0 {
			start = "whole"
		}
		c := newChart(g, start)
		for range 40 {
			follows(t, c, start, text)
			may := slices.DeleteFunc(c.may(), func(s string) bool { return s == "end" })
			if len(may) == 0 {
				break
			}
			terminal := may[r.Intn(len(may))]
			samples := g.terminals[terminal]
			text += " " + samples[r.Intn(len(samples))]
			c = c.read(terminal)
		}
	}
}
