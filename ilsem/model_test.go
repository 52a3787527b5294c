package ilsem_test

import (
	"strings"

	"rung/api"
	"rung/check"
	"rung/sem"
)

// model reads the chapter's words once more: each instruction is an expression,
// or a statement, of Structured Text, and package sem tells what that makes of
// the cells; the accumulator is a typed literal in it.
type model struct {
	code        []api.Inst
	text        api.Prog // the same declarations, and no statements
	cells       []int64
	now         int64
	accumulator api.Expr
	waiting     []waiting
}

// waiting: an operation whose bracket is open, and the accumulator ahead of it.
type waiting struct {
	op          string
	accumulator api.Expr
}

// halt: the model's panic: a fault.
type halt int

func newModel(p api.Prog, cells []int64, now int64) *model {
	m := &model{code: p.Code, text: p, now: now}
	m.text.Il, m.text.Code = false, nil
	m.cells, _, _ = sem.Scan(m.text, cells, now, 0)
	return m
}

// scan tells the fault by which a scan ends, and its steps.
func (m *model) scan(most int) (fault, steps int) {
	defer func() {
		if cause := recover(); cause != nil {
			h, ok := cause.(halt)
			if !ok {
				panic(cause)
			}
			fault = int(h)
		}
	}()
	for at := 0; at >= 0 && at < len(m.code); {
		in := m.code[at]
		at++
		if in.Op == "" {
			continue
		}
		if steps >= most {
			return api.FaultSteps, steps
		}
		steps++
		if !m.mayDo(in.Op) {
			continue
		}
		switch in.Op[:min(3, len(in.Op))] {
		case "JMP":
			at = m.place(in.E[0].Name)
		case "RET":
			at = -1
		default:
			m.do(in)
		}
	}
	return api.FaultNone, steps
}

// place tells where a label stands.
func (m *model) place(label string) int {
	for i, in := range m.code {
		if in.Label == label {
			return i
		}
	}
	panic("no label " + label)
}

func (m *model) mayDo(op string) bool {
	switch op {
	case "JMPC", "CALC", "RETC":
		return m.accumulator.N != 0
	case "JMPCN", "CALCN", "RETCN":
		return m.accumulator.N == 0
	}
	return true
}

func (m *model) do(in api.Inst) {
	switch in.Op {
	case "LD":
		m.accumulator = m.literal(in.E[0])
	case "LDN":
		m.accumulator = m.literal(not(in.E[0]))
	case "NOT":
		m.accumulator = m.literal(not(m.accumulator))
	case "ST":
		m.assign(in.E[0], m.accumulator)
	case "STN":
		m.assign(in.E[0], not(m.accumulator))
	case "S", "R":
		switch {
		case m.accumulator.N == 0:
			m.assign(in.E[0], in.E[0])
		case in.Op == "S":
			m.assign(in.E[0], api.Expr{Op: api.ExLit, Kind: api.KBool, N: 1})
		default:
			m.assign(in.E[0], api.Expr{Op: api.ExLit, Kind: api.KBool})
		}
	case "CAL", "CALC", "CALCN":
		m.state(api.Stmt{Op: api.StCall, V: in.E[0], Args: in.Args})
	case ")":
		w := m.waiting[len(m.waiting)-1]
		m.waiting = m.waiting[:len(m.waiting)-1]
		m.accumulator = m.literal(operation(w.op, w.accumulator, m.accumulator))
	default:
		m.operate(in)
	}
}

func (m *model) operate(in api.Inst) {
	op, opens := strings.CutSuffix(in.Op, "(")
	if !opens {
		m.accumulator = m.literal(operation(op, m.accumulator, in.E[0]))
		return
	}
	w := waiting{op, m.accumulator}
	m.accumulator = api.Expr{}
	if len(in.E) > 0 {
		m.accumulator = m.literal(in.E[0])
	}
	m.waiting = append(m.waiting, w)
}

func not(e api.Expr) api.Expr { return api.Expr{Op: api.ExNot, L: []api.Expr{e}} }

func operation(op string, a, b api.Expr) api.Expr {
	if name, inverts := strings.CutSuffix(op, "N"); inverts {
		return operation(name, a, not(b))
	}
	ops := map[string]int{"AND": api.ExAnd, "OR": api.ExOr, "XOR": api.ExXor, "ADD": api.ExAdd, "SUB": api.ExSub, "MUL": api.ExMul, "DIV": api.ExDiv, "MOD": api.ExMod,
		"GT": api.ExGt, "GE": api.ExGe, "EQ": api.ExEq, "NE": api.ExNe, "LE": api.ExLe, "LT": api.ExLt}
	return api.Expr{Op: ops[op], L: []api.Expr{a, b}}
}

// literal tells an expression's number as a literal of its kind.
func (m *model) literal(e api.Expr) api.Expr {
	kind, err := check.Kind(m.text, e, 0)
	if err != nil {
		panic(err)
	}
	n, fault, err := sem.Eval(m.text, e, 0, m.cells)
	if err != nil {
		panic(err)
	}
	if fault != api.FaultNone {
		panic(halt(fault))
	}
	return api.Expr{Op: api.ExLit, Kind: kind, N: n}
}

func (m *model) assign(v, e api.Expr) {
	m.state(api.Stmt{Op: api.StAssign, V: v, E: []api.Expr{e}})
}

func (m *model) state(s api.Stmt) {
	m.text.Body = []api.Stmt{s}
	defer func() { m.text.Body = nil }()
	cells, fault, steps := sem.Scan(m.text, m.cells, m.now, 1)
	if steps != 1 {
		panic("no statement")
	}
	m.cells = cells
	if fault != api.FaultNone {
		panic(halt(fault))
	}
}
