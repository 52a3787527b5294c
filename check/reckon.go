package check

import (
	"strings"

	"rung/api"
)

// reckoning: what is known on the way down the instructions.
type reckoning struct {
	*checker
	kind int       // the accumulator's kind; 0: there is none, or it may be any
	open []bracket // those that are open, the innermost last
}

// bracket: what waits for its other end: the operation, the accumulator's kind
// ahead of it, its place.
type bracket struct {
	op       string
	kind, at int
}

func (r *reckoning) firstOpen() int {
	if len(r.open) == 0 {
		return 0
	}
	return r.open[0].at
}

// step looks at an instruction that is right by itself.
func (r *reckoning) step(in api.Inst) {
	if in.Label != "" {
		must(len(r.open) == 0, in.At, api.ErrBracket)
		r.kind = 0
	}
	switch in.Op {
	case "":
	case "LD", "LDN":
		r.load(in)
	case "ST", "STN", "S", "R":
		r.store(in)
	case "NOT":
		must(isBits(r.kind), in.At, api.ErrKind)
	case ")":
		r.shut(in)
	case "JMP", "CAL", "RET", "JMPC", "JMPCN", "CALC", "CALCN", "RETC", "RETCN":
		r.turn(in)
	default:
		r.operate(in)
	}
}

func (r *reckoning) load(in api.Inst) {
	r.kind = r.elab(in.E[0], 0).Kind
	must(in.Op == "LD" || isBits(r.kind), in.At, api.ErrKind)
}

func (r *reckoning) store(in api.Inst) {
	kind := r.target(in.E[0])
	right := true
	switch in.Op {
	case "STN":
		right = isBits(kind)
	case "S", "R":
		right = kind == api.KBool
	}
	must(right && kind == r.kind, in.At, api.ErrKind)
}

// turn looks at jumps, calls and returns.
func (r *reckoning) turn(in api.Inst) {
	must(len(r.open) == 0, in.At, api.ErrBracket)
	always := in.Op == "JMP" || in.Op == "CAL" || in.Op == "RET"
	must(always || r.kind == api.KBool, in.At, api.ErrKind)
	if behind(in.Op) == block {
		r.blockCall(in.E[0].Name, in.Args, in.At)
	}
}

// operate looks at an operation, or the beginning of one in brackets: its first
// operand is loaded within them, as if nothing were asked of it.
func (r *reckoning) operate(in api.Inst) {
	op, opens := strings.CutSuffix(in.Op, "(")
	want := r.kind
	if opens {
		want = 0
	}
	inner := 0
	for _, e := range in.E {
		inner = r.elab(e, want).Kind
	}
	must(mayApply(op, r.kind), in.At, api.ErrKind)
	if opens {
		r.open = append(r.open, bracket{op, r.kind, in.At})
		r.kind = inner
		return
	}
	r.kind = result(op, r.kind)
}

// shut looks at a bracket's other end.
func (r *reckoning) shut(in api.Inst) {
	last := len(r.open) - 1
	must(last >= 0, in.At, api.ErrBracket)
	outer := r.open[last]
	must(r.kind == outer.kind, in.At, api.ErrKind)
	r.open = r.open[:last]
	r.kind = result(outer.op, outer.kind)
}

func result(op string, kind int) int {
	if compares(op) {
		return api.KBool
	}
	return kind
}
