package ilsem

import (
	"strings"

	"rung/api"
	"rung/names"
)

// What an order does.
const (
	load = iota
	store
	set
	reset
	invert  // the accumulator
	operate // on the accumulator and an operand
	open    // a bracket
	shut    // a bracket: the operation that waited for it
	jump
	call
	leave
)

// When an order is done.
const (
	always = iota
	ifTrue
	ifFalse
)

// order: an instruction that is ready to be done, as often as it is come by.
type order struct {
	does    int
	when    int
	op      int      // an operation's, as expressions have it
	inverts bool     // whether N stands behind the operator
	kind    int      // the kind of the number that is loaded, stored, inverted, or of both that an operation is done on
	operand api.Expr // elaborated; the literal 0, if there is none
	to      int      // the order that is jumped to
	block   string   // whose call it is
	args    []api.Arg
}

// maker makes orders of instructions, one behind the other.
type maker struct {
	names  names.Names
	labels map[string]int // by label: which order is the first behind it
	kind   int            // the accumulator's
	open   []order        // what the brackets that are open wait for, the innermost last
}

// ordersOf tells the orders of a checked program. A label alone is none.
func ordersOf(p api.Prog) []order {
	m := maker{names: names.Of(p), labels: labelsOf(p.Code)}
	var orders []order
	for _, in := range p.Code {
		if in.Op != "" {
			orders = append(orders, m.order(in))
		}
	}
	return orders
}

func labelsOf(code []api.Inst) map[string]int {
	labels := map[string]int{}
	ahead := 0
	for _, in := range code {
		if in.Label != "" {
			labels[in.Label] = ahead
		}
		if in.Op != "" {
			ahead++
		}
	}
	return labels
}

func (m *maker) order(in api.Inst) order {
	switch name, when := condition(in.Op); name {
	case "JMP":
		return order{does: jump, when: when, to: m.labels[in.E[0].Name]}
	case "CAL":
		block := in.E[0].Name
		return order{does: call, when: when, block: block, args: m.names.Args(block, in.Args)}
	case "RET":
		return order{does: leave, when: when}
	case "NOT":
		return order{does: invert, kind: m.kind}
	case ")":
		return m.shut()
	case "S":
		return m.store(set, false, in)
	case "R":
		return m.store(reset, false, in)
	}
	name, opens := strings.CutSuffix(in.Op, "(")
	name, inverts := strings.CutSuffix(name, "N")
	switch {
	case name == "LD":
		return m.load(inverts, in)
	case name == "ST":
		return m.store(store, inverts, in)
	case opens:
		return m.bracket(operation(name), inverts, in)
	}
	return m.operate(operation(name), inverts, in)
}

// condition tells an operator without C or CN, and when it is done by these.
func condition(op string) (string, int) {
	switch op {
	case "JMPC", "CALC", "RETC":
		return strings.TrimSuffix(op, "C"), ifTrue
	case "JMPCN", "CALCN", "RETCN":
		return strings.TrimSuffix(op, "CN"), ifFalse
	}
	return op, always
}

// operation tells the operator of expressions that does what one of
// instructions does; 0, if none does.
func operation(name string) int {
	switch name {
	case "AND":
		return api.ExAnd
	case "OR":
		return api.ExOr
	case "XOR":
		return api.ExXor
	case "ADD":
		return api.ExAdd
	case "SUB":
		return api.ExSub
	case "MUL":
		return api.ExMul
	case "DIV":
		return api.ExDiv
	case "MOD":
		return api.ExMod
	case "GT":
		return api.ExGt
	case "GE":
		return api.ExGe
	case "EQ":
		return api.ExEq
	case "NE":
		return api.ExNe
	case "LE":
		return api.ExLe
	case "LT":
		return api.ExLt
	}
	return 0
}

func (m *maker) load(inverts bool, in api.Inst) order {
	e := m.names.Elab(in.E[0], 0)
	m.kind = e.Kind
	return order{does: load, inverts: inverts, kind: e.Kind, operand: e}
}

func (m *maker) store(does int, inverts bool, in api.Inst) order {
	return order{does: does, inverts: inverts, kind: m.kind, operand: m.names.Elab(in.E[0], 0)}
}

func (m *maker) operate(op int, inverts bool, in api.Inst) order {
	o := order{does: operate, op: op, inverts: inverts, kind: m.kind, operand: m.names.Elab(in.E[0], m.kind)}
	m.kind = kindOf(o)
	return o
}

// bracket tells the order that opens one. What it is opened for waits till it
// is shut: the operand is loaded, and nothing is asked of it.
func (m *maker) bracket(op int, inverts bool, in api.Inst) order {
	m.open = append(m.open, order{does: shut, op: op, inverts: inverts, kind: m.kind})
	operand := api.Expr{Op: api.ExLit}
	if len(in.E) > 0 {
		operand = m.names.Elab(in.E[0], 0)
	}
	m.kind = operand.Kind
	return order{does: open, operand: operand}
}

func (m *maker) shut() order {
	last := len(m.open) - 1
	o := m.open[last]
	m.open = m.open[:last]
	m.kind = kindOf(o)
	return o
}

// kindOf tells the accumulator's kind behind an operation.
func kindOf(o order) int {
	switch o.op {
	case api.ExLt, api.ExGt, api.ExLe, api.ExGe, api.ExEq, api.ExNe:
		return api.KBool
	}
	return o.kind
}
