package lowil_test

import (
	"fmt"
	"math/rand"
	"strings"
	"testing"

	"rung/api"
	"rung/check"
	"rung/il"
	"rung/lowil"
	"rung/num"
	"rung/types"
)

// walker makes programs up, line by line, each such as may follow on those ahead.
type walker struct {
	*rand.Rand
	lines  []string
	kind   int // the accumulator's; 0, if it isn't known
	outer  []waits
	labels int // that don't stand yet
	all    int
}

// waits: a bracket that is open: the kind that it must have at its end, and the
// accumulator's behind that.
type waits struct{ asked, then int }

func (w *walker) of(l ...string) string { return l[w.Intn(len(l))] }

func (w *walker) in(many int) bool { return w.Intn(many) == 0 }

func (w *walker) anyKind() int { return 1 + w.Intn(api.KTime) }

func blocks() []string {
	return []string{"TON", "TOF", "TP", "CTU", "CTD", "CTUD", "R_TRIG", "F_TRIG", "SR", "RS"}
}

// declared: of each scalar kind a variable (INT1), an array (INT2), a field
// (all.INT3); of each block one (TON4); and some that lie in the image.
func declared() string {
	fields, vars := "", "i0 AT %IX0.0 : BOOL; i1 AT %IW1 : INT; q0 AT %QX0.0 : BOOL; m0 AT %MW0 : WORD;"
	for kind := api.KBool; kind <= api.KTime; kind++ {
		k := num.Name(kind)
		fields += fmt.Sprintf(" %s3 : %s;", k, k)
		vars += fmt.Sprintf(" %s1 : %s; %s2 : ARRAY[%d..%d] OF %s;", k, k, k, kind%3-1, kind%3+1, k)
	}
	for _, block := range blocks() {
		vars += " " + block + "4 : " + block + ";"
	}
	return "TYPE s : STRUCT" + fields + " END_STRUCT; END_TYPE PROGRAM p VAR all : s; " + vars + " END_VAR\n"
}

func (w *walker) index() string {
	return w.of("-1", "0", "1", "1", "2", "SINT1", "UDINT1 + 1", "BYTE1", "INT1 / INT1", "INT2[DINT1]", "all.INT3 MOD 2", "MAX(DINT1, 1)", "SEL(BOOL1, 1, INT2[1])", "LIMIT(0, all.DINT3, INT_TO_DINT(INT1))", "BOOL_TO_INT(BOOL1 OR all.BOOL3 XOR BOOL2[1] AND INT1 < 2)")
}

// target tells what may be assigned to.
func (w *walker) target(kind int) string {
	k := num.Name(kind)
	switch w.Intn(8) {
	case 0:
		return "all." + k + "3"
	case 1, 2:
		return fmt.Sprintf("%s2[%d]", k, kind%3-1+w.Intn(3))
	case 3:
		return k + "2[" + w.index() + "]"
	case 4:
		switch kind {
		case api.KBool:
			return "q0"
		case api.KWord:
			return "m0"
		}
	}
	return k + "1"
}

// literal tells one of that kind; small most often, so that indices are there.
func (w *walker) literal(kind int) string {
	n := w.number(kind)
	if kind == api.KTime {
		return fmt.Sprintf("T#%dms", n)
	}
	return fmt.Sprintf("%s#%d", num.Name(kind), n)
}

func (w *walker) number(kind int) int64 {
	low, high := num.Range(kind)
	return num.Wrap(kind, []int64{0, 1, 1, 2, 3, -1, low, high, high - 1, low + 1, low + w.Int63n(high-low+1)}[w.Intn(11)])
}

// value tells what is of that kind whatever is asked for.
func (w *walker) value(kind int) string {
	switch w.Intn(9) {
	case 0, 1:
		return w.literal(kind)
	case 2:
		switch kind {
		case api.KBool:
			return w.of("i0", "TON4.Q", "CTU4.Q", "SR4.Q1", "TP4.IN", "R_TRIG4.Q", "CTUD4.QD")
		case api.KInt:
			return w.of("i1", "CTU4.CV", "CTUD4.PV")
		case api.KTime:
			return w.of("TON4.ET", "TOF4.PT")
		case api.KDint:
			return fmt.Sprint(w.number(kind))
		}
	}
	return w.target(kind)
}

func (w *walker) operand(kind int) string {
	if kind != api.KTime && w.in(4) {
		return fmt.Sprint(w.number(kind))
	}
	return w.value(kind)
}

func bits(kind int) bool {
	return kind == api.KBool || kind == api.KByte || kind == api.KWord || kind == api.KDword
}

func (w *walker) put(line ...string) { w.lines = append(w.lines, strings.Join(line, "")) }

// line adds one: a wrong one now and then.
func (w *walker) line() {
	if w.in(400) {
		w.kind = w.anyKind()
	}
	n := w.Intn(20)
	switch {
	case w.kind == 0 && n < 14 || n < 2:
		w.load(w.anyKind())
	case n < 7 && len(w.outer) > 0 && w.kind != 0:
		w.shut()
	case n < 5 && len(w.outer) == 0:
		w.turn("", "")
	case n < 7 && len(w.outer) == 0 && w.kind == api.KBool:
		w.turn("C", "CN")
	case w.kind == 0:
		w.load(api.KBool)
	case n < 11:
		w.store()
	case n < 12 && bits(w.kind):
		w.put("NOT")
	default:
		w.operate()
	}
}

func (w *walker) load(kind int) {
	op := "LD "
	if bits(kind) && w.in(3) {
		op = "LDN "
	}
	w.put(op, w.value(kind))
	w.kind = kind
}

func (w *walker) store() {
	ops := []string{"ST "}
	switch {
	case w.kind == api.KBool:
		ops = []string{"ST ", "STN ", "S ", "R "}
	case bits(w.kind):
		ops = []string{"ST ", "STN "}
	}
	w.put(w.of(ops...), w.target(w.kind))
}

func (w *walker) operate() {
	ops := "ADD SUB MUL DIV MOD"
	switch {
	case bits(w.kind):
		ops = "AND ANDN OR ORN XOR XORN"
	case w.kind == api.KTime:
		ops = "ADD SUB"
	}
	op, then := w.of(strings.Fields(ops)...), w.kind
	if w.in(5) {
		op, then = w.of(strings.Fields(comparisons)...), api.KBool
	}
	if !w.in(3) {
		w.put(op, " ", w.operand(w.kind))
		w.kind = then
		return
	}
	w.outer = append(w.outer, waits{w.kind, then})
	switch w.Intn(3) {
	case 0:
		w.put(op, "(")
		w.kind = 0
	case 1:
		w.kind = w.anyKind()
		fallthrough
	case 2:
		w.put(op, "( ", w.value(w.kind))
	}
}

// shut ends a bracket; first it gets an accumulator that it may end with.
func (w *walker) shut() {
	last := len(w.outer) - 1
	if w.kind != w.outer[last].asked {
		w.load(w.outer[last].asked)
	}
	w.put(")")
	w.kind = w.outer[last].then
	w.outer = w.outer[:last]
}

// turn adds what may go on elsewhere, or what may be gone on at.
func (w *walker) turn(how ...string) {
	end := w.of(how...)
	switch n := w.Intn(10); {
	case n < 1:
		w.put("RET", end)
	case n < 4:
		w.put("JMP", end, fmt.Sprint(" l", w.Intn(w.all)))
	case n < 7 && w.labels > 0 && end == "":
		w.labels--
		w.put(fmt.Sprintf("l%d:", w.labels))
		w.kind = 0
	default:
		w.call(end)
	}
}

func (w *walker) call(end string) {
	block := w.of(blocks()...)
	pins, _ := types.Pins(block)
	var args []string
	for _, i := range w.Perm(len(pins))[w.Intn(len(pins)+1):] {
		args = append(args, pins[i]+" := "+w.operand(types.Pin(block, pins[i])))
	}
	w.put("CAL", end, " ", block, "4(", strings.Join(args, ", "), ")")
}

// text makes a program of so many lines, or a few more.
func (w *walker) text(lines int) string {
	w.lines, w.kind, w.all = nil, 0, 1+w.Intn(5)
	w.labels = w.all
	for len(w.lines) < lines {
		w.line()
	}
	for len(w.outer) > 0 {
		w.shut()
	}
	for ; w.labels > 0; w.labels-- {
		w.put(fmt.Sprintf("l%d:", w.labels-1))
		if w.in(2) {
			w.call("")
		}
	}
	// A label may stand on the line of what follows it.
	all := strings.Join(w.lines, "\n")
	if w.in(2) {
		all = strings.ReplaceAll(all, ":\nl", ":\n l")
		all = strings.ReplaceAll(all, ":\n", ": ")
		all = strings.ReplaceAll(all, ":  l", ":\nl")
	}
	return declared() + all + "\nEND_PROGRAM"
}

// cells makes numbers up, some past their kinds, and a few too few.
func (w *walker) cells(p api.Prog) []int64 {
	l := make([]int64, 0, 300)
	for _, c := range types.Cells(p) {
		n := w.number(c.Kind)
		if w.in(9) {
			n = w.Int63() - w.Int63()
		}
		l = append(l, n)
	}
	return l[:len(l)-w.Intn(3)]
}

// P23.1, P23.2: programs that are made up, some scans in a row.
func TestMadeUp(t *testing.T) {
	w := &walker{Rand: rand.New(rand.NewSource(23))}
	ends, used := map[int]int{}, map[string]int{}
	taken, long := 0, 0
	for range 5000 {
		text := w.text(2 + w.Intn(40))
		p, err := il.Parse(text)
		if err != nil {
			t.Fatalf("%s: %v", text, err)
		}
		if wrong := check.Check(p); wrong != nil {
			c, q, err := lowil.Compile(text)
			refuses(t, text, c, q, err, *wrong.(*api.PlaceError))
			continue
		}
		taken++
		for _, in := range p.Code {
			used[in.Op]++
		}
		v, p := built(t, text)
		cells, now := w.cells(p), w.Int63()-w.Int63()
		for range 3 {
			got := alike(t, v, p, cells, now, []int{0, 3, 20, 200, 200, 200, 400}[w.Intn(7)]+w.Intn(3))
			ends[got.fault]++
			if got.steps > 15 {
				long++
			}
			cells, now = got.cells, now+int64(w.Intn(20))
		}
	}
	t.Logf("%d taken, %d long, %v", taken, long, ends)
	for fault := api.FaultNone; fault <= api.FaultSteps; fault++ {
		if ends[fault] < 500 {
			t.Errorf("only %d scans end by %d", ends[fault], fault)
		}
	}
	for _, op := range il.Ops() {
		if used[op] < 50 {
			t.Errorf("only %d times %s", used[op], op)
		}
	}
	if taken < 3800 || long < 2000 {
		t.Errorf("only %d programs were taken, %d scans were long", taken, long)
	}
}
