package sem

import (
	"fmt"
	"math/rand"
	"slices"
	"strings"
	"testing"

	"rung/api"
	"rung/check"
	"rung/st"
	"rung/types"
)

var (
	integers = []int{api.KSint, api.KInt, api.KDint, api.KUsint, api.KUint, api.KUdint}
	signed   = []int{api.KSint, api.KInt, api.KDint, api.KTime}
	bits     = []int{api.KBool, api.KByte, api.KWord, api.KDword}
	blocks   = []string{"TON", "TOF", "TP", "CTU", "CTD", "CTUD", "R_TRIG", "F_TRIG", "SR", "RS"}
)

// declarations: of each scalar kind a variable (vINT), an array (aINT), a field
// (q.fINT), one of each block (bTON), and what lies in the image.
func declarations() string {
	var b strings.Builder
	b.WriteString("TYPE s : STRUCT")
	for _, word := range words[1:] {
		b.WriteString(" f" + word + " : " + word + ";")
	}
	b.WriteString(" END_STRUCT; END_TYPE PROGRAM p VAR")
	for i, word := range words[1:] {
		fmt.Fprintf(&b, " v%s : %s; a%s : ARRAY[%d..%d] OF %s;", word, word, word, i%3-1, i%3+1, word)
	}
	for _, block := range blocks {
		b.WriteString(" b" + block + " : " + block + ";")
	}
	b.WriteString(" q : s; ix AT %IX0.0 : BOOL; qx AT %QX0.0 : BOOL; iw AT %IW0 : INT; mw AT %MW0 : WORD; END_VAR ")
	return b.String()
}

// maker makes texts up that are most often taken.
type maker struct{ *rand.Rand }

func pick[T any](k *maker, l ...T) T { return l[k.Intn(len(l))] }

func (k *maker) is(one int) bool { return k.Intn(one) == 0 }

// number tells a small one most often: so that loops end, and indices are there.
func (k *maker) number(kind int) int64 {
	low, high := ranges[kind][0], ranges[kind][1]
	n := pick(k, 0, 1, 1, 2, 3, -1, low, high, high-1, low+1, low+k.Int63n(high-low+1), low/2, high/2)
	return min(max(n, low), high)
}

func (k *maker) lit(kind int) string {
	n := k.number(kind)
	switch {
	case kind == api.KTime:
		return fmt.Sprintf("T#%dms", n)
	case k.is(3):
		return fmt.Sprint(n)
	}
	return fmt.Sprintf("%s#%d", words[kind], n)
}

// place tells what may be assigned to.
func (k *maker) place(kind, depth int) string {
	word := words[kind]
	switch k.Intn(5) {
	case 0, 1:
		if k.is(6) {
			return "a" + word + "[" + k.expr(pick(k, integers...), depth-1) + "]"
		}
		first := (kind-1)%3 - 1
		return fmt.Sprintf("a%s[%d]", word, first+k.Intn(3)+k.Intn(20)/19)
	case 2:
		return "q.f" + word
	case 3:
		switch kind {
		case api.KBool:
			return "qx"
		case api.KWord:
			return "mw"
		}
	}
	return "v" + word
}

func (k *maker) variable(kind, depth int) string {
	if k.is(4) {
		switch kind {
		case api.KBool:
			return pick(k, "ix", "bTON.Q", "bTOF.Q", "bTP.IN", "bCTU.Q", "bCTUD.QD", "bSR.Q1", "bR_TRIG.Q", "bF_TRIG.CLK")
		case api.KInt:
			return pick(k, "iw", "bCTU.CV", "bCTD.PV", "bCTUD.CV")
		case api.KTime:
			return pick(k, "bTON.ET", "bTOF.PT", "bTP.ET")
		}
	}
	return k.place(kind, depth)
}

func (k *maker) expr(kind, depth int) string {
	if depth <= 0 || k.is(4) {
		if k.is(3) {
			return k.lit(kind)
		}
		return k.variable(kind, depth)
	}
	if k.is(3) {
		return k.call(kind, depth-1)
	}
	a, b := k.expr(kind, depth-1), k.expr(kind, depth-1)
	var may []string
	if slices.Contains(integers, kind) {
		may = append(may, "+", "-", "*", "/", "MOD")
	}
	if kind == api.KTime {
		may = append(may, "+", "-")
	}
	if slices.Contains(signed, kind) {
		may = append(may, "-x")
	}
	if slices.Contains(bits, kind) {
		may = append(may, "AND", "OR", "XOR", "NOT")
	}
	if kind == api.KBool && k.is(2) {
		of := 1 + k.Intn(11)
		a, b = k.expr(of, depth-1), k.expr(of, depth-1)
		may = []string{"<", ">", "<=", ">=", "=", "<>"}
	}
	switch op := pick(k, may...); op {
	case "-x":
		return "(-" + a + ")"
	case "NOT":
		return "(NOT " + a + ")"
	case "/", "MOD":
		if !k.is(3) { // seldom by 0
			b = fmt.Sprintf("%s#%d", words[kind], max(k.number(kind), 1))
		}
		return "(" + a + " " + op + " " + b + ")"
	default:
		return "(" + a + " " + op + " " + b + ")"
	}
}

func (k *maker) call(kind, depth int) string {
	from := 1 + k.Intn(11)
	forms := []string{words[from] + "_TO_" + words[kind] + "(" + k.expr(from, depth) + ")", "SEL(?, !, !)"}
	if slices.Contains(signed, kind) {
		forms = append(forms, "ABS(!)")
	}
	if slices.Contains(integers, kind) || kind == api.KTime {
		forms = append(forms, "MIN(!, !)", "MAX(!, !)", "LIMIT(!, !, !)")
	}
	if kind == api.KByte || kind == api.KWord || kind == api.KDword {
		name := pick(k, "SHL", "SHR", "ROL", "ROR")
		forms = append(forms, name+"(!, "+k.expr(api.KUint, depth)+")", fmt.Sprintf("%s(!, %d)", name, k.Intn(40)))
	}
	form := pick(k, forms...)
	for strings.Contains(form, "!") {
		form = strings.Replace(form, "!", k.expr(kind, depth), 1)
	}
	if strings.Contains(form, "?") {
		form = strings.Replace(form, "?", k.expr(api.KBool, depth), 1)
	}
	return form
}

func (k *maker) body(depth int, looped bool) string {
	var b strings.Builder
	for range k.Intn(4) {
		b.WriteString(k.stmt(depth, looped))
	}
	if looped && k.is(6) {
		b.WriteString("EXIT; ")
	}
	if k.is(25) {
		b.WriteString("RETURN; ")
	}
	return b.String()
}

func (k *maker) stmt(depth int, looped bool) string {
	kind := 1 + k.Intn(11)
	which := k.Intn(8)
	if depth <= 0 {
		which = k.Intn(3)
	}
	switch which {
	case 0:
		return k.blockCall()
	case 3:
		s := "IF " + k.expr(api.KBool, 2) + " THEN " + k.body(depth-1, looped)
		for k.is(3) {
			s += "ELSIF " + k.expr(api.KBool, 2) + " THEN " + k.body(depth-1, looped)
		}
		return s + k.otherwise(depth, looped) + "END_IF; "
	case 4:
		kind = pick(k, integers...)
		s := "CASE " + k.variable(kind, 1) + " OF "
		for range 1 + k.Intn(3) {
			s += k.labels(kind) + ": " + k.body(depth-1, looped)
		}
		return s + k.otherwise(depth, looped) + "END_CASE; "
	case 5:
		return k.forLoop(depth)
	case 6:
		holds, count := k.whileHolds()
		return "WHILE " + holds + " DO " + k.body(depth-1, true) + count + "END_WHILE; "
	case 7:
		holds, count := k.whileHolds()
		return "REPEAT " + k.body(depth-1, true) + count + "UNTIL NOT (" + holds + ") END_REPEAT; "
	}
	return k.place(kind, 2) + " := " + k.expr(kind, 3) + "; "
}

// whileHolds makes a loop's condition up, and what the loop counts by, so that it
// ends, if it isn't any.
func (k *maker) whileHolds() (string, string) {
	if k.is(3) {
		return k.expr(api.KBool, 2), ""
	}
	v := "v" + words[pick(k, integers...)]
	return fmt.Sprintf("%s < %d AND %s", v, k.Intn(9), k.expr(api.KBool, 1)), v + " := " + v + " + 1; "
}

func (k *maker) otherwise(depth int, looped bool) string {
	if k.is(2) {
		return ""
	}
	return "ELSE " + k.body(depth-1, looped)
}

func (k *maker) forLoop(depth int) string {
	kind := pick(k, integers...)
	s := "FOR v" + words[kind] + " := " + k.expr(kind, 1) + " TO " + k.expr(kind, 1)
	if k.is(2) {
		by := pick(k, k.expr(kind, 1), "1", "2", "3", "100")
		if k.is(2) && slices.Contains(signed, kind) {
			by = pick(k, "-1", "-2", "-100")
		}
		s += " BY " + by
	}
	return s + " DO " + k.body(depth-1, true) + "END_FOR; "
}

func (k *maker) labels(kind int) string {
	var l []string
	for range 1 + k.Intn(3) {
		low, high := k.number(kind), k.number(kind)
		if low > high {
			low, high = high, low
		}
		switch k.Intn(3) {
		case 0:
			l = append(l, fmt.Sprint(low))
		case 1:
			l = append(l, fmt.Sprintf("%d..%s#%d", low, words[kind], high))
		case 2:
			l = append(l, fmt.Sprintf("%d..%d", low, high))
		}
	}
	return strings.Join(l, ", ")
}

func (k *maker) blockCall() string {
	block := pick(k, blocks...)
	inputs, _ := types.Pins(block)
	k.Shuffle(len(inputs), func(i, j int) { inputs[i], inputs[j] = inputs[j], inputs[i] })
	var args []string
	for _, pin := range inputs[:k.Intn(len(inputs)+1)] {
		args = append(args, pin+" := "+k.expr(types.Pin(block, pin), 2))
	}
	return "b" + block + "(" + strings.Join(args, ", ") + "); "
}

// cells makes numbers up, small ones most often, some past their kinds.
func (k *maker) cells(p api.Prog) []int64 {
	var l []int64
	for _, c := range types.Cells(p) {
		n := k.number(c.Kind)
		if k.is(9) {
			n = k.Int63() - k.Int63()
		}
		l = append(l, n)
	}
	return l[:len(l)-k.Intn(3)]
}

// P18.1, P18.3, P18.4: programs that are made up, some scans in a row, held
// against the model; the same again is told, too.
func TestMadeUpScans(t *testing.T) {
	k := &maker{rand.New(rand.NewSource(18))}
	begin := declarations()
	ends := map[int]int{}
	taken, long := 0, 0
	for range 1200 {
		text := begin + k.body(3, false) + k.body(3, false) + k.stmt(3, false) + "END_PROGRAM"
		p, err := st.Parse(text)
		if err != nil {
			t.Fatalf("%s: %v", text, err)
		}
		cells := k.cells(p)
		if check.Check(p) != nil {
			if told, fault, steps := Scan(p, cells, 0, 99); len(told) != 0 || fault != 0 || steps != 0 || len(Start(p)) != 0 {
				t.Fatalf("P18.1: %s is refused: %v, %d, %d", text, told, fault, steps)
			}
			continue
		}
		taken++
		now := k.Int63() - k.Int63()
		for range 2 {
			most := pick(k, 0, 4, 20, 300, 300, 300, 300, 300) - k.Intn(2)
			m := newModel(p, cells, now, most)
			before := slices.Clone(cells)
			want := m.scan()
			told, fault, steps := Scan(p, cells, now, most)
			if !slices.Equal(told, m.numbers()) || fault != want || steps != m.steps {
				t.Fatalf("P18.3: %s of %v at %d, %d steps: %v, %d, %d; want %v, %d, %d", text, cells, now, most, told, fault, steps, m.numbers(), want, m.steps)
			}
			again, fault2, steps2 := Scan(p, cells, now, most)
			if !slices.Equal(again, told) || fault2 != fault || steps2 != steps || !slices.Equal(before, cells) {
				t.Fatalf("P18.4: %s of %v: %v, %d, %d", text, cells, again, fault2, steps2)
			}
			ends[fault]++
			if steps > 10 {
				long++
			}
			cells, now = told, now+int64(k.Intn(20))
		}
	}
	for fault, many := range ends {
		if many < 50 {
			t.Errorf("only %d scans end by %d", many, fault)
		}
	}
	if taken < 900 || long < 400 || len(ends) != 4 {
		t.Errorf("only %d programs were taken, %d scans were long; %v", taken, long, ends)
	}
}

// P18.2: expressions that are made up, held against the model.
func TestMadeUpExpressions(t *testing.T) {
	k := &maker{rand.New(rand.NewSource(182))}
	p, err := st.Parse(declarations() + "END_PROGRAM")
	if err != nil {
		t.Fatal(err)
	}
	ends := map[int]int{}
	for range 6000 {
		kind := 1 + k.Intn(11)
		text := k.expr(kind, 1+k.Intn(4))
		e, want, cells := expr(t, text), kind*k.Intn(2), k.cells(p)
		x, refusal := check.Elab(p, e, want)
		n, fault, err := Eval(p, e, want, cells)
		if refusal != nil {
			place := refusal.(*api.PlaceError)
			if n != 0 || fault != 0 || !wrongAt(err, place.At, place.Err) {
				t.Fatalf("P18.2: %s, asked for %d: %d, %d, %v; want %v", text, want, n, fault, err, refusal)
			}
			ends[-1]++
			continue
		}
		number, end := newModel(p, cells, 0, 0).told(x)
		if n != number || fault != end || err != nil {
			t.Fatalf("P18.2: %s, asked for %d, of %v: %d, %d, %v; want %d, %d", text, want, cells, n, fault, err, number, end)
		}
		ends[end]++
	}
	if len(ends) != 4 || ends[api.FaultNone] < 4000 || ends[api.FaultZero] < 40 || ends[api.FaultIndex] < 200 {
		t.Errorf("expressions end so: %v", ends)
	}
}

// told tells an expression's number, and its fault.
func (m *model) told(x api.Expr) (n int64, fault int) {
	defer func() {
		if h, ok := recover().(halt); ok {
			n, fault = 0, int(h)
		}
	}()
	return m.value(x).Int64(), api.FaultNone
}
