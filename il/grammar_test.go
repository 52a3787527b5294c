package il

import (
	"errors"
	"math/rand"
	"reflect"
	"slices"
	"strings"
	"testing"

	"rung/api"
	"rung/lex"
)

// declared are the rules of chapter 13's declarations, as P14.1 takes them: any
// number of lines may stand ahead of each token of these.
const declared = `
types: TYPE {any : STRUCT {any : kind [:= first] ;} END_STRUCT ;} END_TYPE
vars: VAR [RETAIN] {any [AT addr] : type [:= first] ;} END_VAR
type: kind | ARRAY \[ bound .. bound \] OF kind | any
kind: BOOL | SINT | INT | DINT | USINT | UINT | UDINT | BYTE | WORD | DWORD | TIME
bound: untyped | - untyped
first: untyped | typed | time | - untyped | - typed
`

// rules are P14.1's others, with those of chapter 13 that they call for: {..}
// any number of times, [..] may be there; brackets that are signs stand behind
// a backslash. A name is one of three terminals, by what may stand behind it as
// an operator; any is any of them.
const rules = `
program: {types} {line} PROGRAM any {vars} line {inst} END_PROGRAM {line} end
any: name | jump | call
inst: [any :] [operation] line | ) line
operation: op [operand] | jump [any] | call [any ( [arg {, arg}] )] | op ( [operand] | jump ( [operand]
op: name | AND | OR | XOR | NOT | MOD
operand: lit | var
arg: any := operand
lit: untyped | typed | time | - untyped | - typed
var: any [. any | \[ expr \]]
expr: xor {OR xor}
xor: and {XOR and}
and: cmp {AND cmp}
cmp: sum [relation sum]
relation: = | <> | < | > | <= | >=
sum: term {+ term | - term}
term: unary {* unary | / unary | MOD unary}
unary: - unary | NOT unary | primary
primary: untyped | typed | time | ( expr ) | any ( expr {, expr} ) | var
`

// terminals tells each terminal, and texts of one token that are it.
func terminals() map[string][]string {
	all := map[string][]string{
		"name": {"x", "LD", "ANDN", "T", "TON", "end_program", "_", "CALX", "JMPN", "RET", "N", strings.Repeat("n", 32)}, "jump": {"JMP", "JMPC", "JMPCN"}, "call": {"CAL", "CALC", "CALCN"},
		"untyped": {"5", "16#FF", "4294967295"}, "typed": {"INT#-5", "TRUE", "BYTE#2#1"}, "time": {"T#5ms", "TIME#-1h"}, "addr": {"%IX0.0", "%MW63"}, "line": {"\n"}, "end": {""},
	}
	for _, s := range strings.Fields(`PROGRAM END_PROGRAM VAR RETAIN END_VAR TYPE END_TYPE STRUCT END_STRUCT ARRAY OF AT IF THEN ELSIF ELSE END_IF CASE END_CASE FOR TO BY DO END_FOR WHILE END_WHILE REPEAT UNTIL END_REPEAT EXIT RETURN AND OR XOR NOT MOD
		BOOL SINT INT DINT USINT UINT UDINT BYTE WORD DWORD TIME := .. <= >= <> => : ; , . ( ) [ ] = < > + - * /`) {
		all[s] = []string{s}
	}
	return all
}

// terminalOf tells which terminal a token is.
func terminalOf(t api.Token) string {
	switch t.Tok {
	case api.TokName:
		for _, kind := range []string{"jump", "call"} {
			if slices.Contains(terminals()[kind], t.Text) {
				return kind
			}
		}
		return "name"
	case api.TokInt:
		if t.Kind == 0 {
			return "untyped"
		}
		return "typed"
	case api.TokTime:
		return "time"
	case api.TokAddr:
		return "addr"
	case api.TokLine:
		return "line"
	case api.TokEnd:
		return "end"
	}
	return t.Text
}

// grammar: what each symbol that is no terminal may be made of.
type grammar map[string][]string

func newGrammar() grammar {
	g := grammar{}
	g.read(rules, "")
	g.read(declared, "{line}")
	return g
}

// read takes rules in, with something ahead of each terminal.
func (g grammar) read(text, ahead string) {
	spaced := strings.NewReplacer(`\[`, " lb ", `\]`, " rb ", "{", " { ", "}", " } ", "[", " [ ", "]", " ] ")
	signs := strings.NewReplacer("lb", "[", "rb", "]")
	own := []string{"|", "{", "}", "[", "]", "any"}
	for _, line := range strings.Split(strings.TrimSpace(text), "\n") {
		name, _, _ := strings.Cut(line, ": ")
		own = append(own, name)
	}
	for _, line := range strings.Split(strings.TrimSpace(text), "\n") {
		name, right, _ := strings.Cut(line, ": ")
		var stack []string // brackets that are open
		list := map[string][]string{name: {""}}
		of := name
		for _, word := range strings.Fields(spaced.Replace(right)) {
			last := len(list[of]) - 1
			switch word {
			case "{", "[":
				inner := "#" + name + strings.Repeat("'", len(list))
				list[of][last] += inner + " "
				list[inner] = []string{""}
				stack = append(stack, of+" "+word)
				of = inner
			case "}", "]":
				outer, open, _ := strings.Cut(stack[len(stack)-1], " ")
				stack = stack[:len(stack)-1]
				for i := range list[of] {
					if open == "{" {
						list[of][i] += of + " "
					}
				}
				list[of] = append(list[of], "")
				of = outer
			case "|":
				list[of] = append(list[of], "")
			default:
				if ahead != "" && (!slices.Contains(own, word) || word == "any") {
					g["#lines"] = []string{"", "line #lines "}
					list[of][last] += "#lines "
				}
				list[of][last] += signs.Replace(word) + " "
			}
		}
		for name, choices := range list {
			g[name] = choices
		}
	}
}

// state: what may still follow, in each way of reading what came: a terminal
// and the symbols behind it.
type state map[string]bool

// add takes symbols in, with all choices of the first.
func (g grammar) add(s state, symbols string) {
	first, rest, _ := strings.Cut(symbols, " ")
	choices, ok := g[first]
	if !ok {
		s[symbols] = true
		return
	}
	for _, c := range choices {
		g.add(s, c+rest)
	}
}

func (g grammar) begin() state {
	s := state{}
	g.add(s, "program ")
	return s
}

// may tells the terminals that may follow.
func (s state) may() []string {
	var list []string
	for symbols := range s {
		first, _, _ := strings.Cut(symbols, " ")
		list = append(list, first)
	}
	slices.Sort(list)
	return slices.Compact(list)
}

// behind tells what may follow behind a terminal.
func (g grammar) behind(s state, terminal string) state {
	next := state{}
	for symbols := range s {
		if first, rest, _ := strings.Cut(symbols, " "); first == terminal && terminal != "end" {
			g.add(next, rest)
		}
	}
	return next
}

// errorOf: a text's error; what stands beside one must be nothing.
func errorOf(t *testing.T, text string) error {
	t.Helper()
	p, e := Parse(text)
	if e != nil && !reflect.DeepEqual(p, api.Prog{}) {
		t.Errorf("P14.1: %.200q: %v beside %v", text, p, e)
	}
	return e
}

// wrong: is it just this error, and of the type that is asked for?
func wrong(e error, at int, want api.Errno) bool {
	x, ok := e.(*api.PlaceError)
	return ok && *x == api.PlaceError{At: at, Err: want} && errors.Is(e, want)
}

// follows holds the errors of a text with any one token more against the rules;
// s is what they say may follow.
func follows(t *testing.T, g grammar, s state, text string) {
	t.Helper()
	may := s.may()
	for terminal, samples := range terminals() {
		ok := slices.Contains(may, terminal)
		ends := ok && (terminal == "end" || slices.Contains(g.behind(s, terminal).may(), "end"))
		for _, sample := range samples {
			longer := text + " " + sample
			e := errorOf(t, longer)
			switch {
			case !ok && !wrong(e, len(text)+1, api.ErrParse):
				t.Fatalf("P14.1: %q: %v; %s may not stand at %d", longer, e, terminal, len(text)+1)
			case ends && e != nil:
				t.Fatalf("P14.1: %q: %v", longer, e)
			case ok && !ends && !wrong(e, len(longer), api.ErrParse):
				t.Fatalf("P14.1: %q: %v; it may go on behind %d", longer, e, len(longer))
			}
		}
	}
}

// every holds each beginning of a right text, with any one token behind it,
// against the rules.
func every(t *testing.T, g grammar, text string) {
	t.Helper()
	tokens, e := lex.Tokens(text, true)
	if e != nil {
		t.Fatal(e)
	}
	s := g.begin()
	for _, token := range tokens {
		follows(t, g, s, text[:token.At])
		terminal := terminalOf(token)
		if !slices.Contains(s.may(), terminal) {
			t.Fatalf("P14.1: %q isn't right at %d", text, token.At)
		}
		s = g.behind(s, terminal)
	}
	if e := errorOf(t, text); e != nil {
		t.Errorf("P14.1: %q: %v", text, e)
	}
}

const whole = "\n (* x\n *)\n TYPE END_TYPE\nTYPE p :\nSTRUCT x : INT := -\n3; y : BOOL;\n\nz : TIME := T#1s; END_STRUCT; q\n: STRUCT END_STRUCT; END_TYPE\n\n" +
	"PROGRAM main VAR END_VAR\nVAR a AT %QW0 : INT := 5;\nl : ARRAY\n[-\n2..7\n] OF BYTE; t1 : TON;\nEND_VAR VAR\nRETAIN q : p := INT#1; END_VAR\n\n" +
	"LD a\nst: ADD( -2\nMUL b [ 3 ]\n)\nANDN q.x\nAND (\n SUB( l[-a + MAX(b, l[c.d]) * (NOT 2)]\nend :\n LD: ADD LD\n\nJMPC go\nJMP\nJMPCN(T#1s\nJMP( a[1]\n" +
	"CAL t1(IN := a, PT := T#5s)\nCALC t1()\nCALCN\nCALCN CAL(CAL := JMP[JMP], x := -INT#1)\nRET\nNOT\nNOT( TRUE\nFOO 1\nMOD INT#3\nXOR JMP.CAL\nOR( -BYTE#1\n x:CAL x(x:=x.x)\nEND_PROGRAM\n\n"

// P14.1: what may stand behind each beginning of a text, and what may not.
func TestEveryToken(t *testing.T) {
	g := newGrammar()
	every(t, g, whole)
	every(t, g, "PROGRAM p\nEND_PROGRAM")
	every(t, g, "PROGRAM CAL\n\n\nVAR END_VAR\nVAR END_VAR VAR END_VAR\n\nEND_PROGRAM\n")
	every(t, g, "PROGRAM p\nLD a[b OR c XOR d AND e = f + g - h * i / j MOD k]\nEND_PROGRAM")
}

// P14.1: texts that are gone on with by any token that may follow, and at each
// place by all others.
func TestAnyWalk(t *testing.T) {
	g := newGrammar()
	r := rand.New(rand.NewSource(14))
	for n := range 120 {
		text := []string{"", "PROGRAM p", "PROGRAM p\n", "PROGRAM p\nLD a[", "TYPE", "PROGRAM p VAR"}[n%6]
		s := g.begin()
		tokens, _ := lex.Tokens(text, true)
		for _, token := range tokens[:len(tokens)-1] {
			s = g.behind(s, terminalOf(token))
		}
		for range 30 {
			follows(t, g, s, text)
			may := slices.DeleteFunc(s.may(), func(terminal string) bool { return terminal == "end" })
			if len(may) == 0 {
				break
			}
			terminal := may[r.Intn(len(may))]
			samples := terminals()[terminal]
			text += " " + samples[r.Intn(len(samples))]
			s = g.behind(s, terminal)
		}
	}
}
