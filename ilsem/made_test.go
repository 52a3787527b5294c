package ilsem_test

import (
	"fmt"
	"math/rand"
	"slices"
	"strings"
	"testing"

	"rung/api"
	"rung/check"
	"rung/il"
	"rung/ilsem"
	"rung/types"
)

var blocks = []string{"TON", "TOF", "TP", "CTU", "CTD", "CTUD", "R_TRIG", "F_TRIG", "SR", "RS"}

// declarations: of each scalar kind a variable (vINT), an array (aINT), a field
// (q.fINT), one of each block (bTON), and what lies in the image.
func declarations() string {
	var b strings.Builder
	b.WriteString("TYPE s : STRUCT")
	for _, word := range words[1:] {
		b.WriteString(" f" + word + " : " + word + ";")
	}
	b.WriteString(" END_STRUCT; END_TYPE PROGRAM p VAR")
	for i, word := range words[1:] {
		fmt.Fprintf(&b, " v%s : %s; a%s : ARRAY[%d..%d] OF %s;", word, word, word, i%3-1, i%3+1, word)
	}
	for _, block := range blocks {
		b.WriteString(" b" + block + " : " + block + ";")
	}
	b.WriteString(" q : s; ix AT %IX0.0 : BOOL; qx AT %QX0.0 : BOOL; iw AT %IW0 : INT; mw AT %MW0 : WORD; END_VAR\n")
	return b.String()
}

// writer makes texts up that are most often taken.
type writer struct {
	*rand.Rand
	lines  []string
	labels int
}

func pick[T any](w *writer, l ...T) T { return l[w.Intn(len(l))] }

func (w *writer) is(one int) bool { return w.Intn(one) == 0 }

func (w *writer) put(words ...string) { w.lines = append(w.lines, strings.Join(words, "")) }

func isBits(kind int) bool {
	return kind == api.KBool || kind >= api.KByte && kind <= api.KDword
}

// number tells a small one most often: so that loops end, and indices are there.
func (w *writer) number(kind int) int64 {
	low, high := ranges[kind][0], ranges[kind][1]
	n := pick(w, 0, 1, 1, 2, 3, -1, low, high, high-1, low+1, low+w.Int63n(high-low+1), low/2, high/2)
	return min(max(n, low), high)
}

func (w *writer) typed(kind int) string {
	if kind == api.KTime {
		return fmt.Sprintf("T#%dms", w.number(kind))
	}
	return fmt.Sprintf("%s#%d", words[kind], w.number(kind))
}

func (w *writer) index() string {
	return pick(w, "-1", "0", "1", "1", "2", "3", "vSINT", "vINT", "vUSINT + 1", "vDINT - vDINT", "vBYTE", "1 / vINT", "aINT[vINT]", "MIN(vINT, 2)", "SEL(vBOOL, 1, 2)", "vUINT MOD 3", "q.fINT + q.fINT", "q.fUINT - q.fUINT MOD 3", "SEL(q.fBOOL, q.fSINT, 1)", "WORD_TO_INT(SHL(vWORD, 1))", "LIMIT(1, vDINT, 2)")
}

// target tells what may be assigned to.
func (w *writer) target(kind int) string {
	word := words[kind]
	switch w.Intn(6) {
	case 0:
		return fmt.Sprintf("a%s[%d]", word, (kind-1)%3-1+w.Intn(3))
	case 1:
		if w.is(3) {
			return "a" + word + "[" + w.index() + "]"
		}
	case 2:
		return "q.f" + word
	case 3:
		switch kind {
		case api.KBool:
			return "qx"
		case api.KWord:
			return "mw"
		}
	}
	return "v" + word
}

func (w *writer) variable(kind int) string {
	if w.is(4) {
		switch kind {
		case api.KBool:
			return pick(w, "ix", "bTON.Q", "bTOF.Q", "bTP.IN", "bCTU.Q", "bCTUD.QD", "bSR.Q1", "bR_TRIG.Q", "bF_TRIG.CLK")
		case api.KInt:
			return pick(w, "iw", "bCTU.CV", "bCTD.PV", "bCTUD.CV")
		case api.KTime:
			return pick(w, "bTON.ET", "bTOF.PT", "bTP.ET")
		}
	}
	return w.target(kind)
}

// value tells what stands where just that kind may be loaded.
func (w *writer) value(kind int) string {
	switch {
	case w.is(3):
		return w.typed(kind)
	case kind == api.KDint && w.is(3):
		return fmt.Sprint(w.number(kind))
	}
	return w.variable(kind)
}

// operand tells what stands where that kind is asked for.
func (w *writer) operand(kind int) string {
	if kind != api.KTime && w.is(3) {
		return fmt.Sprint(w.number(kind))
	}
	return w.value(kind)
}

// lead writes lines that lead from any accumulator to one of that kind.
func (w *writer) lead(kind, depth int) {
	switch {
	case kind == api.KBool && w.is(2):
		of := 1 + w.Intn(11)
		w.load(of)
		w.goOn(of, depth-1)
		w.operate(of, depth, "GT", "GE", "EQ", "NE", "LE", "LT")
	default:
		w.load(kind)
	}
	w.goOn(kind, depth)
}

// load is wrong now and then.
func (w *writer) load(kind int) {
	op := "LD "
	if w.is(100) {
		kind = 1 + w.Intn(11)
	}
	if isBits(kind) && w.is(3) {
		op = "LDN "
	}
	w.put(op, w.value(kind))
}

// goOn writes lines that leave the accumulator of that kind.
func (w *writer) goOn(kind, depth int) {
	for range w.Intn(3) {
		switch {
		case w.is(4):
			w.store(kind)
		case isBits(kind) && w.is(4):
			w.put("NOT")
		case isBits(kind):
			w.operate(kind, depth, "AND", "ANDN", "OR", "ORN", "XOR", "XORN")
		case kind == api.KTime:
			w.operate(kind, depth, "ADD", "SUB")
		default:
			w.operate(kind, depth, "ADD", "SUB", "MUL", "DIV", "MOD")
		}
	}
}

func (w *writer) store(kind int) {
	op := "ST "
	switch {
	case kind == api.KBool:
		op = pick(w, "ST ", "STN ", "S ", "R ")
	case isBits(kind):
		op = pick(w, "ST ", "STN ")
	}
	w.put(op, w.target(kind))
}

func (w *writer) operate(kind, depth int, ops ...string) {
	op := pick(w, ops...)
	if depth > 0 && w.is(3) {
		w.bracket(op, kind, depth-1)
		return
	}
	b := w.operand(kind)
	if (op == "DIV" || op == "MOD") && !w.is(4) { // seldom by 0
		b = fmt.Sprintf("%s#%d", words[kind], max(w.number(kind), 1))
	}
	w.put(op, " ", b)
}

// bracket may begin with another kind.
func (w *writer) bracket(op string, kind, depth int) {
	switch first := 1 + w.Intn(11); w.Intn(4) {
	case 0, 1:
		w.put(op, "( ", w.value(kind))
		w.goOn(kind, depth)
	case 2:
		w.put(op, "( ", w.value(first))
		w.goOn(first, depth)
		if kind == api.KBool {
			w.operate(first, depth, "GT", "GE", "EQ", "NE", "LE", "LT")
		} else {
			w.lead(kind, depth)
		}
	case 3:
		w.put(op, "(")
		w.lead(kind, depth)
	}
	w.put(")")
}

func (w *writer) call(op string) {
	block := pick(w, blocks...)
	inputs, _ := types.Pins(block)
	w.Shuffle(len(inputs), func(i, j int) { inputs[i], inputs[j] = inputs[j], inputs[i] })
	var args []string
	for _, pin := range inputs[:w.Intn(len(inputs)+1)] {
		args = append(args, pin+" := "+w.operand(types.Pin(block, pin)))
	}
	w.put(op, " b", block, "(", strings.Join(args, ", "), ")")
}

// turn writes what may go on elsewhere; how: whether it hangs on the accumulator.
func (w *writer) turn(how string) {
	switch w.Intn(6) {
	case 0:
		w.put("RET", how)
	case 1, 2:
		w.call("CAL" + how)
	default:
		w.put("JMP", how, " l", fmt.Sprint(w.Intn(w.labels)))
	}
}

// program writes a whole one: some pieces, with labels ahead of some of them.
func (w *writer) program() string {
	w.lines, w.labels = nil, 1+w.Intn(4)
	left := w.labels
	for range 2 + w.Intn(5) {
		if left > 0 && w.is(2) {
			left--
			w.put(fmt.Sprintf("l%d:", left))
			w.lines[len(w.lines)-1] += pick(w, "", "\n")
		}
		kind := 1 + w.Intn(11)
		first := len(w.lines)
		w.lead(kind, 2)
		if first > 0 && strings.HasSuffix(w.lines[first-1], ":") {
			w.lines = slices.Concat(w.lines[:first-1], []string{w.lines[first-1] + " " + w.lines[first]}, w.lines[first+1:])
		}
		w.store(kind)
		if kind == api.KBool && !w.is(3) {
			w.turn(pick(w, "C", "CN"))
			w.store(kind)
		}
		if w.is(5) {
			w.turn("")
		}
	}
	for ; left > 0; left-- {
		w.put(fmt.Sprintf("l%d:", left-1))
	}
	return declarations() + strings.Join(w.lines, "\n") + "\nEND_PROGRAM"
}

// cells makes numbers up, small ones most often, some past their kinds.
func (w *writer) cells(p api.Prog) []int64 {
	var l []int64
	for _, c := range types.Cells(p) {
		n := w.number(c.Kind)
		if w.is(9) {
			n = w.Int63() - w.Int63()
		}
		l = append(l, n)
	}
	return l[:len(l)-w.Intn(3)]
}

// P19.1, P19.2: programs that are made up, some scans in a row, held against the
// model; the same again is told, too.
func TestMadeUpScans(t *testing.T) {
	w := &writer{Rand: rand.New(rand.NewSource(19))}
	ends := map[int]int{}
	const all = 1200
	taken, long := 0, 0
	for range all {
		text := w.program()
		p, err := il.Parse(text)
		if err != nil {
			t.Fatalf("%s: %v", text, err)
		}
		cells := w.cells(p)
		if check.Check(p) != nil {
			if told, fault, steps := ilsem.Scan(p, cells, 0, 99); len(told) != 0 || fault != 0 || steps != 0 {
				t.Fatalf("P19.1: %s is refused: %v, %d, %d", text, told, fault, steps)
			}
			continue
		}
		taken++
		now := w.Int63() - w.Int63()
		for range 2 {
			most := pick(w, 0, 4, 20, 60, 60, 60, 60) - w.Intn(2)
			before := slices.Clone(cells)
			m := newModel(p, cells, now)
			wantFault, wantSteps := m.scan(most)
			told, fault, steps := ilsem.Scan(p, cells, now, most)
			if !slices.Equal(told, m.cells) || fault != wantFault || steps != wantSteps {
				t.Fatalf("P19.1: %s of %v at %d, %d steps: %v, %d, %d; want %v, %d, %d", text, cells, now, most, told, fault, steps, m.cells, wantFault, wantSteps)
			}
			again, fault2, steps2 := ilsem.Scan(p, cells, now, most)
			if !slices.Equal(again, told) || fault2 != fault || steps2 != steps || !slices.Equal(before, cells) {
				t.Fatalf("P19.2: %s of %v: %v, %d, %d", text, cells, again, fault2, steps2)
			}
			ends[fault]++
			if steps > 10 {
				long++
			}
			cells, now = told, now+int64(w.Intn(20))
		}
	}
	for fault, many := range ends {
		if many < 100 {
			t.Errorf("only %d scans end by %d", many, fault)
		}
	}
	if taken < 900 || taken == all || long < 800 || len(ends) != 4 {
		t.Errorf("%d programs of %d were taken, %d scans were long; %v", taken, all, long, ends)
	}
}
