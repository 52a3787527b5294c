package lex

import (
	"errors"
	"math/big"
	"math/rand"
	"regexp"
	"slices"
	"strings"
	"testing"

	"rung/addr"
	"rung/api"
)

// The chapter, once more: each form of a token as an expression, the longest
// match counts.
const decimal = `[0-9](?:_?[0-9])*`

var (
	formBlank   = longest(`[ \t\r]+`)
	formFeeds   = longest(`[ \t\r\n]+`)
	formComment = longest(`\(\*([^*]|\*+[^*)])*\*+\)`)
	formWord    = longest(`[A-Za-z_][A-Za-z0-9_]*`)
	formInt     = longest(decimal + `|2#[01](_?[01])*|8#[0-7](_?[0-7])*|16#[0-9A-F](_?[0-9A-F])*`)
	formTyped   = longest(`(BOOL|SINT|INT|DINT|USINT|UINT|UDINT|BYTE|WORD|DWORD)#(` + formInt.String()[1:] + `)|(SINT|INT|DINT)#-` + decimal)
	formTruth   = longest(`(BOOL#)?(TRUE|FALSE)`)
	formTime    = longest(`(TIME|T)#-?(` + decimal + `d)?(` + decimal + `h)?(` + decimal + `m)?(` + decimal + `s)?(` + decimal + `ms)?`)
	formAddr    = longest(`%[A-Za-z0-9.]*`)
	formSign    = longest(`:=|\.\.|<=|>=|<>|=>|[:;,.()\[\]=<>+*/-]`)
	formOpen    = longest(`(BOOL|SINT|INT|DINT|USINT|UINT|UDINT|BYTE|WORD|DWORD)#((2|8|16)#)?|(TIME|T)#|(2|8|16)#`)
	formPart    = regexp.MustCompile(`([0-9_]+)(ms|d|h|m|s)`)
)

func longest(form string) *regexp.Regexp {
	r := regexp.MustCompile("^(?:" + form + ")")
	r.Longest()
	return r
}

// words is P12.2's list, as the chapter writes it.
var words = strings.Fields(`PROGRAM END_PROGRAM VAR RETAIN END_VAR TYPE END_TYPE STRUCT END_STRUCT ARRAY OF AT IF THEN ELSIF ELSE END_IF CASE END_CASE FOR TO BY DO END_FOR WHILE END_WHILE REPEAT UNTIL END_REPEAT EXIT RETURN AND OR XOR NOT MOD
	BOOL SINT INT DINT USINT UINT UDINT BYTE WORD DWORD TIME`)

// scalar: a kind's number, name and range, written out.
type scalar struct {
	kind     int
	name     string
	min, max string
}

var scalars = []scalar{
	{1, "BOOL", "0", "1"}, {2, "SINT", "-128", "127"}, {3, "INT", "-32768", "32767"}, {4, "DINT", "-2147483648", "2147483647"},
	{5, "USINT", "0", "255"}, {6, "UINT", "0", "65535"}, {7, "UDINT", "0", "4294967295"},
	{8, "BYTE", "0", "255"}, {9, "WORD", "0", "65535"}, {10, "DWORD", "0", "4294967295"}, {11, "TIME", "-2147483648", "2147483647"},
}

func bigOf(s string, base int) *big.Int {
	n, ok := new(big.Int).SetString(strings.ReplaceAll(s, "_", ""), base)
	if !ok {
		panic(s)
	}
	return n
}

// value tells a number with its base ahead of it.
func value(s string) *big.Int {
	for prefix, base := range map[string]int{"2#": 2, "8#": 8, "16#": 16} {
		if rest, ok := strings.CutPrefix(s, prefix); ok {
			return bigOf(rest, base)
		}
	}
	return bigOf(s, 10)
}

func within(n *big.Int, s scalar) bool {
	return n.Cmp(bigOf(s.min, 10)) >= 0 && n.Cmp(bigOf(s.max, 10)) <= 0
}

// wantLiteral tells the token of a literal that is written rightly.
func wantLiteral(s string) (api.Token, api.Errno) {
	name, number, typed := strings.Cut(s, "#")
	switch {
	case strings.HasSuffix(s, "TRUE"):
		return api.Token{Tok: api.TokInt, Kind: api.KBool, N: 1}, api.OK
	case strings.HasSuffix(s, "FALSE"):
		return api.Token{Tok: api.TokInt, Kind: api.KBool}, api.OK
	case !typed || name[0] <= '9':
		if n := value(s); n.Cmp(big.NewInt(4294967295)) <= 0 {
			return api.Token{Tok: api.TokInt, N: n.Int64()}, api.OK
		}
		return api.Token{}, api.ErrLexBig
	case name == "T" || name == "TIME":
		n := new(big.Int)
		for _, part := range formPart.FindAllStringSubmatch(number, -1) {
			ms := map[string]int64{"d": 24 * 60 * 60 * 1000, "h": 60 * 60 * 1000, "m": 60 * 1000, "s": 1000, "ms": 1}[part[2]]
			n.Add(n, new(big.Int).Mul(bigOf(part[1], 10), big.NewInt(ms)))
		}
		if number[0] == '-' {
			n.Neg(n)
		}
		if within(n, scalars[10]) {
			return api.Token{Tok: api.TokTime, Kind: api.KTime, N: n.Int64()}, api.OK
		}
		return api.Token{}, api.ErrConst
	}
	of := scalars[slices.IndexFunc(scalars, func(x scalar) bool { return x.name == name })]
	if n := value(number); within(n, of) {
		return api.Token{Tok: api.TokInt, Kind: of.kind, N: n.Int64()}, api.OK
	}
	return api.Token{}, api.ErrConst
}

// wantNext tells the token that s begins with, its bytes, or its error.
func wantNext(s string) (api.Token, int, api.Errno) {
	word := formWord.FindString(s)
	size := max(len(formInt.FindString(s)), len(formTyped.FindString(s)), len(formTruth.FindString(s)), timeSize(s))
	if len(formOpen.FindString(s)) > size {
		return api.Token{}, 0, api.ErrLex // a literal is begun, and isn't there
	}
	if size > 0 && size >= len(word) {
		token, e := wantLiteral(s[:size])
		return token, size, e
	}
	if word != "" {
		switch {
		case slices.Contains(words, word):
			return api.Token{Tok: api.TokWord, Text: word}, len(word), api.OK
		case len(word) > 32:
			return api.Token{}, 0, api.ErrLexBig
		}
		return api.Token{Tok: api.TokName, Text: word}, len(word), api.OK
	}
	if place := formAddr.FindString(s); place != "" {
		if _, _, e := addr.Parse(place); e != api.OK {
			return api.Token{}, 0, api.ErrAddr
		}
		return api.Token{Tok: api.TokAddr, Text: place}, len(place), api.OK
	}
	if sign := formSign.FindString(s); sign != "" {
		return api.Token{Tok: api.TokOp, Text: sign}, len(sign), api.OK
	}
	return api.Token{}, 0, api.ErrLex
}

// timeSize tells the bytes of the time that s begins with; the expression
// takes one without any part, too.
func timeSize(s string) int {
	m := formTime.FindString(s)
	if m == "" || m[len(m)-1] == '#' || m[len(m)-1] == '-' {
		return 0
	}
	return len(m)
}

// wantTokens tells what the chapter asks of a text.
func wantTokens(text string, il bool) ([]api.Token, error) {
	if len(text) > 65536 {
		return nil, &api.PlaceError{At: 65536, Err: api.ErrLexBig}
	}
	var list []api.Token
	blank := formFeeds
	if il {
		blank = formBlank
	}
	for at := 0; at < len(text); {
		rest := text[at:]
		if between := blank.FindString(rest) + formComment.FindString(rest); between != "" {
			at += len(between) // one of the two is empty
			continue
		}
		token, size, e := api.Token{Tok: api.TokLine, Text: "\n"}, 1, api.OK
		switch {
		case strings.HasPrefix(rest, "(*"):
			e = api.ErrLex
		case rest[0] != '\n':
			token, size, e = wantNext(rest)
		}
		if e != api.OK {
			return nil, &api.PlaceError{At: at, Err: e}
		}
		token.At = at
		list, at = append(list, token), at+size
	}
	return append(list, api.Token{Tok: api.TokEnd, At: len(text)}), nil
}

// sameError: both none, or of one place and number, and of the type asked for.
func sameError(a, b error) bool {
	if a == nil || b == nil {
		return a == nil && b == nil
	}
	x, ok := a.(*api.PlaceError)
	y := b.(*api.PlaceError)
	return ok && *x == *y && errors.Is(a, y.Err)
}

func same(t *testing.T, text string, il bool) {
	t.Helper()
	want, wantErr := wantTokens(text, il)
	got, e := Tokens(text, il)
	if !slices.Equal(got, want) || !sameError(e, wantErr) {
		t.Fatalf("P12.1: Tokens(%.200q, %v): %v, %v; want %v, %v", text, il, got, e, want, wantErr)
	}
}

// one tells the single token of a text, its place left out.
func one(t *testing.T, text string) api.Token {
	t.Helper()
	l, e := Tokens(text, false)
	if e != nil || len(l) != 2 || l[0].At != 0 || l[1] != (api.Token{Tok: api.TokEnd, At: len(text)}) {
		t.Errorf("P12.1: %q: %v, %v", text, l, e)
		return api.Token{}
	}
	return l[0]
}

// P12.1: the examples, and literals at the edges of their ranges.
func TestLiterals(t *testing.T) {
	for _, x := range []struct {
		s    string
		kind int
		n    int64
	}{
		{"INT#-5", api.KInt, -5}, {"16#FF", 0, 255}, {"0", 0, 0}, {"00", 0, 0}, {"007", 0, 7}, {"10", 0, 10}, {"1_0_0", 0, 100},
		{"4294967295", 0, 4294967295}, {"16#FFFF_FFFF", 0, 4294967295}, {"8#37777777777", 0, 4294967295}, {"2#11111111111111111111111111111111", 0, 4294967295},
		{"0000000000000000000000000000000000000000001", 0, 1}, {"16#00000000000000000000000000000000000000ABCDEF", 0, 0xABCDEF},
		{"2#1_0_1", 0, 5}, {"8#0", 0, 0}, {"16#0_A", 0, 10}, {"16#0123456", 0, 0x123456}, {"16#789ABC", 0, 0x789ABC}, {"8#7", 0, 7}, {"2#0", 0, 0},
		{"BOOL#TRUE", api.KBool, 1}, {"BOOL#FALSE", api.KBool, 0}, {"BOOL#1", api.KBool, 1}, {"BOOL#0", api.KBool, 0}, {"BOOL#2#1", api.KBool, 1}, {"BOOL#16#0", api.KBool, 0},
		{"TRUE", api.KBool, 1}, {"FALSE", api.KBool, 0},
		{"SINT#127", api.KSint, 127}, {"SINT#-128", api.KSint, -128}, {"SINT#-0", api.KSint, 0}, {"SINT#16#7F", api.KSint, 127}, {"SINT#-1_2_8", api.KSint, -128},
		{"INT#32767", api.KInt, 32767}, {"INT#-32768", api.KInt, -32768}, {"INT#2#101", api.KInt, 5}, {"INT#8#17", api.KInt, 15}, {"INT#1_000", api.KInt, 1000},
		{"DINT#2147483647", api.KDint, 2147483647}, {"DINT#-2147483648", api.KDint, -2147483648}, {"DINT#16#7FFF_FFFF", api.KDint, 2147483647},
		{"USINT#0", api.KUsint, 0}, {"USINT#255", api.KUsint, 255}, {"UINT#65535", api.KUint, 65535}, {"UDINT#4294967295", api.KUdint, 4294967295},
		{"BYTE#16#FF", api.KByte, 255}, {"WORD#16#FFFF", api.KWord, 65535}, {"DWORD#16#FFFFFFFF", api.KDword, 4294967295}, {"DWORD#4_294_967_295", api.KDword, 4294967295},
	} {
		if got := one(t, x.s); got != (api.Token{Tok: api.TokInt, Kind: x.kind, N: x.n}) {
			t.Errorf("P12.1: %q: %v", x.s, got)
		}
		same(t, x.s, false)
	}
	for s, n := range map[string]int64{
		"T#1h30m": 5400000, "T#1d": 86400000, "T#1h": 3600000, "T#1m": 60000, "T#1s": 1000, "T#1ms": 1, "T#0ms": 0, "T#-0d": 0, "T#0d0h0m0s0ms": 0,
		"TIME#1d2h3m4s5ms": 93784005, "T#-1d2h3m4s5ms": -93784005, "T#1m1ms": 60001, "T#1d1ms": 86400001, "T#2h3s": 7203000, "T#90m": 5400000, "T#0_1_0s": 10000,
		"T#2147483647ms": 2147483647, "T#-2147483648ms": -2147483648, "TIME#2_147_483_647ms": 2147483647, "TIME#-24d20h31m23s648ms": -2147483648, "TIME#24d20h31m23s647ms": 2147483647,
		"T#0000000000000000000000000000000000000000000024d": 2073600000,
	} {
		if got := one(t, s); got != (api.Token{Tok: api.TokTime, Kind: api.KTime, N: n}) {
			t.Errorf("P12.1: %q: %v; want %d", s, got, n)
		}
		same(t, s, true)
	}
}

// P12.1: each kind's last number and the one beyond it, in each base.
func TestRanges(t *testing.T) {
	for _, x := range scalars {
		low, high := bigOf(x.min, 10), bigOf(x.max, 10)
		unit := ""
		if x.kind == api.KTime {
			unit = "ms"
		}
		if got := one(t, x.name+"#0"+unit); got.Kind != x.kind || got.N != 0 {
			t.Errorf("P12.1: %s#0: %v", x.name, got)
		}
		for _, by := range []int64{0, 1, 2, 10, 1 << 32, 1 << 33, 1<<63 - 1} {
			over := new(big.Int).Add(high, big.NewInt(by))
			under := new(big.Int).Sub(low, big.NewInt(by))
			texts := []string{x.name + "#" + over.String() + unit}
			if x.min != "0" {
				texts = append(texts, x.name+"#"+under.String()+unit)
			}
			if unit == "" {
				texts = append(texts, x.name+"#2#"+over.Text(2), x.name+"#8#"+over.Text(8), x.name+"#16#"+strings.ToUpper(over.Text(16)))
			}
			for _, s := range texts {
				same(t, s, false)
				if _, e := Tokens(s, false); by == 0 && e != nil || by > 0 && !sameError(e, &api.PlaceError{Err: api.ErrConst}) {
					t.Errorf("P12.1: %q: %v", s, e)
				}
			}
		}
	}
	for _, s := range []string{"4294967296", "16#100000000", "2#100000000000000000000000000000000", "8#40000000000", "18446744073709551616", "18446744073709551617", "16#10000000000000001", strings.Repeat("9", 65536)} {
		if _, e := Tokens(s, false); !sameError(e, &api.PlaceError{Err: api.ErrLexBig}) {
			t.Errorf("P12.1: %.40q: %v", s, e)
		}
	}
	for _, s := range []string{"T#25d", "T#24d21h", "T#2147483648ms", "T#-2147483649ms", "T#2147484s", "T#99999999999999999999999d", "T#213503982335d", "TIME#-18446744073709551616ms", "T#24d20h31m23s648ms", "T#-24d20h31m23s649ms", "INT#18446744073709551616", "BOOL#18446744073709551617"} {
		if _, e := Tokens(s, false); !sameError(e, &api.PlaceError{Err: api.ErrConst}) {
			t.Errorf("P12.1: %q: %v", s, e)
		}
	}
}

// P12.1: wrong tokens, told at their beginning, wherever it is; nothing beside
// the error.
func TestRefuses(t *testing.T) {
	long := strings.Repeat("a_", 16)
	for _, x := range []struct {
		s    string
		at   int
		want api.Errno
	}{
		{"?", 0, api.ErrLex}, {"#", 0, api.ErrLex}, {"!", 0, api.ErrLex}, {"\"", 0, api.ErrLex}, {"'", 0, api.ErrLex}, {"&", 0, api.ErrLex}, {"{", 0, api.ErrLex}, {"\x7f", 0, api.ErrLex}, {"\v", 0, api.ErrLex}, {"\f", 0, api.ErrLex}, {"\u00a0", 0, api.ErrLex}, {"ä", 0, api.ErrLex}, {"aä", 1, api.ErrLex}, {"\xff", 0, api.ErrLex},
		{"(*", 0, api.ErrLex}, {"(*)", 0, api.ErrLex}, {"(* *", 0, api.ErrLex}, {"a (* * )", 2, api.ErrLex}, {"(**)(*", 4, api.ErrLex}, {"?(*", 0, api.ErrLex},
		{"2#", 0, api.ErrLex}, {"8#8", 0, api.ErrLex}, {"16#_1", 0, api.ErrLex}, {"16#ff", 0, api.ErrLex}, {"16#G", 0, api.ErrLex}, {"2#-1", 0, api.ErrLex}, {"16# 1", 0, api.ErrLex},
		{"10#5", 2, api.ErrLex}, {"3#1", 1, api.ErrLex}, {"016#1", 3, api.ErrLex}, {"1_6#1", 3, api.ErrLex}, {"2 #1", 2, api.ErrLex},
		{"INT#", 0, api.ErrLex}, {"INT# 5", 0, api.ErrLex}, {"INT#(**)5", 0, api.ErrLex}, {"INT#+5", 0, api.ErrLex}, {"INT#--5", 0, api.ErrLex}, {"INT#-", 0, api.ErrLex}, {"INT#- 5", 0, api.ErrLex}, {"INT#_5", 0, api.ErrLex}, {"INT#-_5", 0, api.ErrLex}, {"INT#A", 0, api.ErrLex}, {"INT#16#", 0, api.ErrLex}, {"INT#2#2", 0, api.ErrLex}, {"BOOL#8#TRUE", 0, api.ErrLex}, {"INT#TRUE", 0, api.ErrLex}, {"INT#INT#1", 0, api.ErrLex}, {"INT#10#1", 6, api.ErrLex},
		{"SINT#-2#1", 7, api.ErrLex}, {"DINT#-16#F", 8, api.ErrLex}, {"DINT#-8#1", 7, api.ErrLex},
		{"USINT#-1", 0, api.ErrLex}, {"UINT#-0", 0, api.ErrLex}, {"UDINT#-1", 0, api.ErrLex}, {"BYTE#-1", 0, api.ErrLex}, {"WORD#-1", 0, api.ErrLex}, {"DWORD#-1", 0, api.ErrLex}, {"BOOL#-1", 0, api.ErrLex}, {"BOOL#-0", 0, api.ErrLex}, {"BOOL#true", 0, api.ErrLex}, {"BOOL#T", 0, api.ErrLex}, {"BYTE#TRUE", 0, api.ErrLex},
		{"int#5", 3, api.ErrLex}, {"t#5s", 1, api.ErrLex}, {"IF#5", 2, api.ErrLex}, {"TRUE#1", 4, api.ErrLex}, {"TT#5s", 2, api.ErrLex}, {"INT #5", 4, api.ErrLex}, {"REAL#5", 4, api.ErrLex}, {"ARRAY#5", 5, api.ErrLex},
		{"T#", 0, api.ErrLex}, {"T#-", 0, api.ErrLex}, {"T#5", 0, api.ErrLex}, {"TIME#5", 0, api.ErrLex}, {"TIME#16#5s", 0, api.ErrLex}, {"T#h", 0, api.ErrLex}, {"T# 5s", 0, api.ErrLex}, {"T#5 s", 0, api.ErrLex}, {"T#--5s", 0, api.ErrLex}, {"T#+5s", 0, api.ErrLex}, {"T#5S", 0, api.ErrLex}, {"T#5us", 0, api.ErrLex}, {"T#_5s", 0, api.ErrLex}, {"T#5_s", 0, api.ErrLex}, {"T#5__0s", 0, api.ErrLex}, {"T#1.5s", 0, api.ErrLex}, {"TIME#TRUE", 0, api.ErrLex},
		{"%", 0, api.ErrAddr}, {"%%IX0.0", 0, api.ErrAddr}, {"%IX0.0.", 0, api.ErrAddr}, {"%IW0..5", 0, api.ErrAddr}, {"a:=%IX0.8", 3, api.ErrAddr}, {"%IW64", 0, api.ErrAddr}, {"%IW01", 0, api.ErrAddr}, {"%iw0", 0, api.ErrAddr}, {"%IW0a", 0, api.ErrAddr}, {"% IW0", 0, api.ErrAddr}, {"%_", 0, api.ErrAddr},
		{long + "b", 0, api.ErrLexBig}, {" " + long + "1", 1, api.ErrLexBig}, {long + "_", 0, api.ErrLexBig}, {strings.Repeat("x", 65536), 0, api.ErrLexBig},
		// From the left: the first that can't be.
		{"a 4294967296 ?", 2, api.ErrLexBig}, {"? 4294967296", 0, api.ErrLex}, {"INT#40000 %", 0, api.ErrConst}, {"% INT#40000", 0, api.ErrAddr}, {strings.Repeat("?", 65536), 0, api.ErrLex},
		{strings.Repeat("?", 65537), 65536, api.ErrLexBig}, {strings.Repeat("a ", 40000), 65536, api.ErrLexBig}, {strings.Repeat(" ", 65536) + "(*", 65536, api.ErrLexBig}, {"(*" + strings.Repeat(" ", 65533) + "*)", 65536, api.ErrLexBig},
	} {
		for _, il := range []bool{false, true} {
			if l, e := Tokens(x.s, il); !sameError(e, &api.PlaceError{At: x.at, Err: x.want}) || l != nil {
				t.Errorf("P12.1: %.40q: %v, %v; want %v at %d", x.s, l, e, x.want, x.at)
			}
		}
	}
	if !slices.Equal([]api.Errno{api.ErrLex, api.ErrLexBig, api.ErrConst, api.ErrAddr}, []api.Errno{120, 121, 163, 100}) {
		t.Error("P12.1: the errors' numbers")
	}
}

// pieces tells the tokens of a text, each as its bytes.
func pieces(t *testing.T, text string, il bool) []string {
	t.Helper()
	l, e := Tokens(text, il)
	if e != nil {
		t.Errorf("P12.1: %q: %v", text, e)
		return nil
	}
	var out []string
	for i := range len(l) - 1 {
		out = append(out, strings.TrimRight(text[l[i].At:l[i+1].At], " "))
	}
	return out
}

// P12.1: tokens are as long as can be, and no longer.
func TestLongest(t *testing.T) {
	for _, x := range []string{
		"1 __2", "1 _", "1 _a", "12 ab", "0 x1", "2#10 2", "2#1 __1", "2#1 _2", "8#7 8", "16#F f", "16#F _g", "16#A _", "INT#5 a", "INT#16#F G", "INT#5 .. 6", "1 .. 2", "1 . 5", "INT#2#1 2",
		"T#1h 30", "T#1m 5 h", "T#1h 1 h", "T#5ms 5 s", "T#5m 5 m", "T#5m x", "T#5ms x", "T#1s 2 m", "T#1d 1 d", "T#1h 2 _s", "T#5s _", "T#1s ms", "T#1ms 1 ms", "T#5m d", "T#1h 5 __1s", "T#1m1ms s",
		"BOOL#TRUE X", "BOOL#TRUE _", "BOOL#FALSE 1", "BOOL#1 TRUE", "BOOL#0 x", "INT#5 - 5", "INT#-5 - 5", "INT#5 + 5",
		":= =", ": :=", ".. .", ". a", "<= =", "<> =", "<> >", ">= =", "> :=", "=> =", "=> >", "= <=", "= =>", "< :=", "* *", "* )", "( )", "+ -", "- 5", "/ /", "[ ]", "( (", ") *", ": :", "; ;", ", ,",
		"%IW7 _a", "%IW7 :=", "%QX1.3 %QX1.3", "%IW1 - 1", "a %IW7", "5 %IW7", "TRUE %IW7",
		"a . b", "a ( b", "a1 [ 1", "_ . _", "TRUE_", "TRUE1", "FALSEX", "XTRUE", "True", "IFX", "ENDIF", "END_IF", "END_", "T", "T1", "t", "T_", "TIMER", "INT1", "AINT", "INT_",
	} {
		want := strings.Fields(x)
		joined := strings.Join(want, "")
		if got := pieces(t, joined, false); !slices.Equal(got, want) {
			t.Errorf("P12.1: %q: %q; want %q", joined, got, want)
		}
		same(t, joined, false)
	}
	for _, s := range []string{":=", "..", "<=", ">=", "<>", "=>", ":", ";", ",", ".", "(", ")", "[", "]", "=", "<", ">", "+", "-", "*", "/"} {
		if got := one(t, s); got != (api.Token{Tok: api.TokOp, Text: s}) {
			t.Errorf("P12.1: %q: %v", s, got)
		}
	}
	for _, s := range []string{"a", "Z", "_", "__", "_1", "a_b", "TON", strings.Repeat("n", 32), strings.Repeat("_", 31) + "9", "AND_", "ANDN", "end_if", "N0", "azAZ09_"} {
		if got := one(t, s); got != (api.Token{Tok: api.TokName, Text: s}) {
			t.Errorf("P12.1: %q: %v", s, got)
		}
	}
	for _, s := range []string{"%IX0.0", "%QX15.7", "%MX1.3", "%IW0", "%QW63", "%MW10"} {
		if got := one(t, s); got != (api.Token{Tok: api.TokAddr, Text: s}) {
			t.Errorf("P12.1: %q: %v", s, got)
		}
	}
}

// P12.1: every byte alone, behind a name, and ahead of one, in both languages.
func TestBytes(t *testing.T) {
	for c := range 256 {
		for d := range 256 {
			same(t, string([]byte{byte(c), byte(d)}), d&1 == 1)
		}
		for _, il := range []bool{false, true} {
			b := string([]byte{byte(c)})
			for _, s := range []string{b, "a" + b, b + "a", "1" + b + "1", "2#1" + b, "16#A" + b + "A", "T#1m" + b, "INT#" + b + "1", "%IW1" + b, "(*" + b + "*)", "<" + b, "x " + b + " y"} {
				same(t, s, il)
			}
		}
	}
}

// P12.1: line feeds are tokens of IL, blanks of ST; one within a comment is
// none.
func TestLines(t *testing.T) {
	text := "\nLD a\r\n(* \n\n *)ST b\n\n"
	l, e := Tokens(text, true)
	want := []api.Token{
		{Tok: api.TokLine, Text: "\n"}, {Tok: api.TokName, Text: "LD", At: 1}, {Tok: api.TokName, Text: "a", At: 4}, {Tok: api.TokLine, Text: "\n", At: 6},
		{Tok: api.TokName, Text: "ST", At: 15}, {Tok: api.TokName, Text: "b", At: 18}, {Tok: api.TokLine, Text: "\n", At: 19}, {Tok: api.TokLine, Text: "\n", At: 20}, {Tok: api.TokEnd, At: 21},
	}
	if e != nil || !slices.Equal(l, want) {
		t.Errorf("P12.1: %v, %v", l, e)
	}
	l, e = Tokens(text, false)
	want = slices.DeleteFunc(want, func(x api.Token) bool { return x.Tok == api.TokLine })
	if e != nil || !slices.Equal(l, want) {
		t.Errorf("P12.1: %v, %v", l, e)
	}
	if _, e := Tokens("a\n\v", true); !sameError(e, &api.PlaceError{At: 2, Err: api.ErrLex}) {
		t.Errorf("P12.1: %v", e)
	}
}

// P12.1: a text of MaxText bytes is taken, whatever it is made of; one more
// byte, and it isn't.
func TestFullText(t *testing.T) {
	for i, s := range []string{" ", "\n", "0", "0_0", "1 ", "a ", "(**)", ";", "TRUE ", "%MW63", ":=", "T#1ms", "T#0s0", "INT#0+", "(* ", "(", "_"} {
		full := strings.Repeat(s, 65536/len(s)+1)
		same(t, full[:65535], i%2 == 0)
		same(t, full[:65536], i%2 == 1)
		same(t, full[:65536]+" ", i%2 == 0)
	}
	comment := "(*" + strings.Repeat("*", 65532) + "*)"
	if l, e := Tokens(comment, false); e != nil || len(l) != 1 || l[0].At != 65536 {
		t.Errorf("P12.1: %v, %v", l, e)
	}
}

// atoms: pieces that texts are put together of, so that tokens meet.
var atoms = append(strings.Fields(`a b1 _ __ T t TRUE FALSE TIME INT SINT DINT UINT BOOL DWORD # - -- 0 1 7 8 9 10 16 2 F A G f _1 1_ 2# 8# 16# 2#1 16#F INT# BOOL# T# TIME# d h m s ms 1d 2h 3m 4s 5ms . .. : := = < > <= >= <> => ( ) [ ] + * / , ; % %IX %IW0 %QX1.3 IX0.0 ? ! é IF END_IF THEN AND OR XOR (* *) (**) 32767 32768 128 129 4294967295 4294967296 24d 25d 2147483648`), " ", "\t", "\r", "\n", " ", "\x00")

// P12.1: texts of any pieces, by the expressions above.
func TestAnyText(t *testing.T) {
	r := rand.New(rand.NewSource(12))
	for _, a := range atoms {
		for _, b := range atoms {
			same(t, a+b, true)
			for range 12 {
				same(t, a+b+atoms[r.Intn(len(atoms))], false)
			}
		}
	}
	for range 60000 {
		var b strings.Builder
		for range r.Intn(14) {
			b.WriteString(atoms[r.Intn(len(atoms))])
		}
		same(t, b.String(), r.Intn(2) == 0)
	}
	for range 20000 {
		b := []byte(good)
		for range 1 + r.Intn(3) {
			b[r.Intn(len(b))] = byte(r.Intn(256))
		}
		same(t, string(b[r.Intn(len(b)):]), r.Intn(2) == 0)
	}
}

const good = "TYPE pt : STRUCT x : INT := -5; y : TIME := T#1s; END_STRUCT; END_TYPE\nPROGRAM p\nVAR RETAIN a AT %QX1.3 : BOOL := TRUE; l : ARRAY [1..3] OF DINT; END_VAR\n(* a comment *)\nIF a AND NOT (b >= 16#F_F) THEN l[2] := DINT#-7 + l[1] MOD 2#101; END_IF;\nt1(IN := a, PT := T#1m30s);\nEND_PROGRAM\n"

// P12.1: a whole program, in which no token is wrong.
func TestProgram(t *testing.T) {
	for _, il := range []bool{false, true} {
		same(t, good, il)
		if l, e := Tokens(good, il); e != nil || len(l) < 80 {
			t.Errorf("P12.1: %v, %v", l, e)
		}
	}
	for i := range len(good) {
		same(t, good[:i], i%2 == 0)
		same(t, good[i:], i%2 == 1)
	}
}

// P12.2: the chapter's words are words; nothing else is.
func TestWord(t *testing.T) {
	for _, w := range words {
		if !Word(w) {
			t.Errorf("P12.2: %s is a word", w)
		}
		if got := one(t, w); got != (api.Token{Tok: api.TokWord, Text: w}) {
			t.Errorf("P12.1: %s: %v", w, got)
		}
		for i := range len(w) + 1 {
			for c := range 256 {
				b := string([]byte{byte(c)})
				near := []string{w[:i], w[i:], w[:i] + b + w[i:]}
				if i < len(w) {
					near = append(near, w[:i]+b+w[i+1:], w[:i]+w[i+1:])
				}
				for _, s := range near {
					if Word(s) != slices.Contains(words, s) {
						t.Fatalf("P12.2: Word(%q): %v", s, Word(s))
					}
				}
			}
		}
		for _, s := range []string{strings.ToLower(w), w + w, w + " ", " " + w, w + "#", w[:1] + strings.ToLower(w[1:])} {
			if Word(s) {
				t.Errorf("P12.2: %q is no word", s)
			}
		}
	}
	for _, s := range []string{"", " ", "T", "TRUE", "FALSE", "TON", "CTU", "LD", "ANDN", "REAL", "LREAL", "STRING", "LINT", "ULINT", "LWORD", "END_ARRAY", "END_TO", "CONTINUE", "FUNCTION", "VAR_INPUT", "CONSTANT", "INT#", "%IX0.0", ":=", "1", "é", strings.Repeat("IF", 1<<16)} {
		if Word(s) {
			t.Errorf("P12.2: %q is no word", s)
		}
	}
}

// P12.3: the same tokens, with other blanks and comments between them, are the
// same but for their places.
func TestBetween(t *testing.T) {
	r := rand.New(rand.NewSource(3))
	tokens := strings.Fields("a IF 1 16#FF INT#-5 BOOL#TRUE TRUE T#1h30m %QX1.3 := .. . ( ) [ * / < > = - + : ; T x_1 2#1 TIME#-5ms")
	between := []string{" ", "\t", "\r", "(**)", "(***)", "(* a *)", "(* (* *)", "(*)*)", "(* ? # é \x00 *)", "(*\n*)", "(* 'x' %IX9 99999999999 *)", "\n"}
	for range 20000 {
		il := r.Intn(2) == 0
		among := between
		if il {
			among = between[:len(between)-1]
		}
		var parts []string
		var places [2][]int
		var texts [2]strings.Builder
		for range r.Intn(8) {
			parts = append(parts, tokens[r.Intn(len(tokens))])
		}
		for i := range texts {
			for range r.Intn(3) {
				texts[i].WriteString(among[r.Intn(len(among))])
			}
			for _, part := range parts {
				places[i] = append(places[i], texts[i].Len())
				texts[i].WriteString(part)
				for range 1 + r.Intn(3) {
					texts[i].WriteString(among[r.Intn(len(among))])
				}
			}
			places[i] = append(places[i], texts[i].Len())
		}
		a, e := Tokens(texts[0].String(), il)
		b, f := Tokens(texts[1].String(), il)
		if e != nil || f != nil || len(a) != len(parts)+1 || len(b) != len(a) {
			t.Fatalf("P12.3: %q: %v, %v; %q: %v, %v", texts[0].String(), a, e, texts[1].String(), b, f)
		}
		for i := range a {
			if a[i].At != places[0][i] || b[i].At != places[1][i] {
				t.Fatalf("P12.3: %q, %q: places of token %d: %v, %v", texts[0].String(), texts[1].String(), i, a[i], b[i])
			}
			a[i].At, b[i].At = 0, 0
			if a[i] != b[i] {
				t.Fatalf("P12.3: %q, %q: %v, %v", texts[0].String(), texts[1].String(), a[i], b[i])
			}
		}
	}
}

// What is answered is new memory: what is done to one answer is not seen in
// another.
func TestNewMemory(t *testing.T) {
	first, _ := Tokens(good, false)
	again, _ := Tokens(good, false)
	for i := range first {
		first[i] = api.Token{Tok: 99}
	}
	_ = append(first[:0], first[1:]...)
	want, _ := wantTokens(good, false)
	last, _ := Tokens(good, false)
	if !slices.Equal(again, want) || !slices.Equal(last, want) {
		t.Error("P12.1: answers share memory")
	}
}
