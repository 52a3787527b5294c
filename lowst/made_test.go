package lowst_test

import (
	"fmt"
	"math/rand"
	"regexp"
	"strings"
	"testing"

	"rung/api"
	"rung/check"
	"rung/code"
	"rung/lowst"
	"rung/num"
	"rung/st"
	"rung/types"
)

// grammar tells what a word in curly brackets may be: any of all, but where it
// stands deep one of the flat.
type grammar struct{ flat, all map[string][]string }

var blocks = []string{"TON", "TOF", "TP", "CTU", "CTD", "CTUD", "R_TRIG", "F_TRIG", "SR", "RS"}

const integers = " SINT INT DINT USINT UINT UDINT "

// scalars tells the kinds' words.
func scalars() []string {
	var l []string
	for kind := api.KBool; kind <= api.KTime; kind++ {
		l = append(l, num.Name(kind))
	}
	return l
}

func (g *grammar) flatly(word string, l ...string) {
	g.flat[word] = append(g.flat[word], l...)
	g.deeply(word, l...)
}

func (g *grammar) deeply(word string, l ...string) { g.all[word] = append(g.all[word], l...) }

// fill puts words into templates, for the signs that they follow.
func fill(l []string, signs ...string) []string {
	var all []string
	for _, s := range l {
		all = append(all, strings.NewReplacer(signs...).Replace(s))
	}
	return all
}

func newGrammar() *grammar {
	g := &grammar{map[string][]string{}, map[string][]string{}}
	for i, k := range scalars() {
		g.kind(k, i%3-1)
	}
	for _, k := range strings.Fields(integers) {
		g.flatly("integer", "{"+k+"}")
		g.flatly("labels "+k, fill([]string{"{lit $}", "{range $}", "{lit $}, {range $}, {lit $}"}, "$", k)...)
	}
	for _, block := range blocks {
		g.block(block)
	}
	for _, which := range []string{"stmt", "looped"} {
		g.statements(which)
	}
	g.flatly("looped", "EXIT; ", "EXIT; ", "RETURN; ")
	return g
}

// statements adds those that stand within a loop, or don't.
func (g *grammar) statements(which string) {
	add := func(k string, l ...string) { g.deeply(which, fill(l, "?", which, "$", k)...) }
	for _, k := range scalars() {
		g.flatly(which, fill([]string{"{to $} := {$}; ", "{to $} := {$}; "}, "$", k)...)
	}
	for _, k := range strings.Fields(integers) {
		add(k, "CASE {$} OF {labels $}: {body ?}{labels $}: {body ?}{else ?}END_CASE; ")
		for _, by := range []string{"", " BY {$}", " BY {lit $}", " BY -{lit $}"} {
			add(k, "FOR v$ := {$} TO {$}"+by+" DO {body looped}END_FOR; ")
		}
	}
	for range 3 {
		add("", "IF {BOOL} THEN {body ?}{else ?}END_IF; ",
			"IF {BOOL} THEN {body ?}ELSIF {BOOL} THEN {body ?}{else ?}END_IF; ",
			"WHILE {BOOL} DO {body looped}END_WHILE; ",
			"WHILE vINT < 5 DO vINT := vINT + 1; {body looped}END_WHILE; ",
			"REPEAT {body looped}UNTIL {BOOL} END_REPEAT; ")
	}
	g.flatly("body "+which, fill([]string{"", "{?}", "{?}", "{?}{?}", "{?}{?}{?}"}, "?", which)...)
	g.flatly("else "+which, "", "ELSE {body "+which+"}")
}

// kind adds what there is of a scalar; low is the least index of its array.
func (g *grammar) kind(k string, low int) {
	add := func(l ...string) { g.deeply(k, fill(l, "$$", k, "$", "{"+k+"}")...) }
	places := []string{"v" + k, "v" + k, "q.f" + k, fmt.Sprintf("a%s[%d]", k, low), fmt.Sprintf("a%s[%d]", k, low+2)}
	g.flatly("to "+k, places...)
	g.deeply("to "+k, "a"+k+"[{integer}]")
	g.flatly(k, append(places, "{lit "+k+"}", "{lit "+k+"}")...)
	add("a$$[{integer}]", "a$$[{BYTE}]", "SEL({BOOL}, $, $)")
	for _, from := range scalars() {
		add(from + "_TO_$$({" + from + "})")
	}
	kind := num.Kind(k)
	isInteger := strings.Contains(integers, " "+k+" ")
	switch {
	case isInteger:
		add("$ * $", "$ / $", "($ / {lit $$})", "($ MOD {lit $$})", "($ - $) * $")
		fallthrough
	case kind == api.KTime:
		add("($ + $)", "($ - $)", "($ + $)", "($ - ($ - $))", "MIN($, $)", "MAX($, $)", "LIMIT($, $, $)")
	default:
		add("($ AND $)", "($ OR $)", "($ XOR $)", "(NOT $)", "NOT (NOT ($))")
	}
	if num.Signed(kind) {
		add("(-$)", "ABS($)", "(-(-$))")
	}
	if kind == api.KByte || kind == api.KWord || kind == api.KDword {
		add("SHL($, {UINT})", "SHR($, 3)", "ROL($, {UINT})", "ROR($, 9)")
	}
	for _, op := range []string{"<", ">", "<=", ">=", "=", "<>"} {
		g.deeply("BOOL", "({"+k+"} "+op+" {"+k+"})")
	}
}

// block adds a block's calls and pins.
func (g *grammar) block(block string) {
	inputs, outputs := types.Pins(block)
	for _, pin := range append(inputs, outputs...) {
		g.flatly(num.Name(types.Pin(block, pin)), "b"+block+"."+pin)
	}
	for i := range inputs {
		var args []string
		for j := range i + 1 { // the first ones, the last of these first
			pin := inputs[i-j]
			args = append(args, pin+" := {"+num.Name(types.Pin(block, pin))+"}")
		}
		for _, which := range []string{"stmt", "looped"} {
			g.flatly(which, "b"+block+"("+strings.Join(args, ", ")+"); ")
		}
	}
}

// declarations: of each scalar kind a variable (vINT), an array (aINT), a field
// (q.fINT), and one of each block (bTON).
func declarations() string {
	fields, vars := "", ""
	for i, k := range scalars() {
		fields += " f" + k + " : " + k + ";"
		vars += fmt.Sprintf(" v%s : %s; a%s : ARRAY[%d..%d] OF %s;", k, k, k, i%3-1, i%3+1, k)
	}
	for _, block := range blocks {
		vars += " b" + block + " : " + block + ";"
	}
	return "TYPE s : STRUCT" + fields + " END_STRUCT; END_TYPE PROGRAM p VAR q : s;" + vars + " END_VAR "
}

type maker struct {
	*rand.Rand
	*grammar
}

var hole = regexp.MustCompile(`\{[^{}]*\}`)

// make makes a text of a word up.
func (m *maker) make(word string, depth int) string {
	if kind, ok := strings.CutPrefix(word, "lit "); ok {
		return m.lit(kind)
	}
	if kind, ok := strings.CutPrefix(word, "range "); ok {
		a, b := m.number(num.Kind(kind)), m.number(num.Kind(kind))
		return fmt.Sprintf("%d..%d", min(a, b), max(a, b))
	}
	may := m.all[word]
	if depth <= 0 || m.Intn(5) == 0 {
		may = m.flat[word]
		if len(may) == 0 {
			may = m.all[word]
		}
	}
	return hole.ReplaceAllStringFunc(may[m.Intn(len(may))], func(s string) string {
		return m.make(s[1:len(s)-1], depth-1)
	})
}

// number tells a small one most often: so that loops end, and indices are there.
func (m *maker) number(kind int) int64 {
	low, high := num.Range(kind)
	l := []int64{0, 1, 1, 2, 3, 4, -1, -2, 9, low, high, high - 1, low + m.Int63n(high-low+1)}
	return min(max(l[m.Intn(len(l))], low), high)
}

func (m *maker) lit(k string) string {
	n := m.number(num.Kind(k))
	switch {
	case k == "TIME":
		return fmt.Sprintf("T#%dms", n)
	case m.Intn(3) == 0:
		return fmt.Sprint(n)
	}
	return fmt.Sprintf("%s#%d", k, n)
}

// cells makes numbers up, small ones most often, some past their kinds.
func (m *maker) cells(p api.Prog) []int64 {
	var l []int64
	for _, c := range types.Cells(p) {
		n := m.number(c.Kind)
		if m.Intn(9) == 0 {
			n = m.Int63() - m.Int63()
		}
		l = append(l, n)
	}
	return l[:len(l)-m.Intn(3)]
}

// P22.1, P22.2: programs that are made up, some scans in a row.
func TestMadeUp(t *testing.T) {
	m := &maker{rand.New(rand.NewSource(22)), newGrammar()}
	begin := declarations()
	ends := map[int]int{}
	taken, long := 0, 0
	for range 4500 {
		text := begin
		for range 1 + m.Intn(4) {
			text += m.make("stmt", 1+m.Intn(6))
		}
		text += "END_PROGRAM"
		p, err := st.Parse(text)
		if err != nil {
			t.Fatalf("%s: %v", text, err)
		}
		c, q, err := lowst.Compile(text)
		if wrong := check.Check(p); wrong != nil {
			at := wrong.(*api.PlaceError)
			if !wrongAt(err, at.At, at.Err) || !isNone(c) || q.Name != "" {
				t.Fatalf("P22.1: %s: %v, want %v", text, err, wrong)
			}
			continue
		}
		if err != nil {
			t.Fatalf("P22.1: %s: %v; it keeps %d", text, err, keeps(p))
		}
		taken++
		right(t, c, p)
		if held := deepest(t, c); held > keeps(p)+3 {
			t.Fatalf("P22.1: %s: keeps %d, has %d numbers on the stack:\n%s", text, keeps(p), held, code.Text(c))
		}
		v := machine(t, c)
		cells, now := m.cells(p), m.Int63()-m.Int63()
		for range 3 {
			most := []int{0, 3, 20, 300, 300, 300, 900}[m.Intn(7)] + m.Intn(3)
			fault, steps := 0, 0
			cells, fault, steps = same(t, v, p, text, cells, now, most)
			ends[fault]++
			if steps > 10 {
				long++
			}
			now += int64(m.Intn(20))
		}
	}
	t.Logf("%d taken, %d long, %v", taken, long, ends)
	for fault := api.FaultNone; fault <= api.FaultSteps; fault++ {
		if ends[fault] < 500 {
			t.Errorf("only %d scans end by %d", ends[fault], fault)
		}
	}
	if taken < 3000 || long < 1200 {
		t.Errorf("only %d programs were taken, %d scans were long", taken, long)
	}
}

// deepest tells how many numbers the code has on the stack at most, ahead of any
// of its instructions.
func deepest(t *testing.T, c api.Code) int {
	t.Helper()
	l, err := code.Depths(c)
	if err != nil {
		t.Fatalf("P22.1: %v", err)
	}
	most := 0
	for _, n := range l {
		most = max(most, n)
	}
	return most
}
