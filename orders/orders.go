// Package orders: what Instruction List's instructions come to: orders, with what
// they are done on and the kinds of it. What a program means, and its code, go by
// these alike. Programs are such that check.Check takes them.
package orders

import (
	"strings"

	"rung/api"
	"rung/names"
)

// What an order does.
const (
	Nothing = iota // a label stands alone
	Load
	Store
	Set
	Reset
	Invert  // the accumulator
	Operate // on the accumulator and an operand
	Open    // a bracket
	Shut    // a bracket: the operation that waited for it
	Jump
	Call
	Leave
)

// When an order is done.
const (
	Always = iota
	IfTrue
	IfFalse
)

// Order: an instruction that is ready to be done, as often as it is come by.
type Order struct {
	Label   string // that stands ahead of it, if one does
	Does    int
	When    int
	Op      int      // an operation's, as expressions have it
	Inverts bool     // whether N stands behind the operator
	Kind    int      // the kind of the number that is loaded, stored, inverted, or of both that an operation is done on
	Operand api.Expr // elaborated; a bracket's, if there is none, the literal 0, of no kind
	To      string   // the label that is jumped to
	Block   string   // whose call it is
	Args    []api.Arg
}

// Of tells a program's orders, one for each instruction.
func Of(p api.Prog) []Order {
	m := maker{names: names.Of(p)}
	list := make([]Order, len(p.Code))
	for i, in := range p.Code {
		if in.Op != "" {
			list[i] = m.order(in)
		}
		list[i].Label = in.Label
	}
	return list
}

// maker makes orders of instructions, one behind the other.
type maker struct {
	names names.Names
	kind  int     // the accumulator's
	open  []Order // what the brackets that are open wait for, the innermost last
}

func (m *maker) order(in api.Inst) Order {
	switch name, when := condition(in.Op); name {
	case "JMP":
		return Order{Does: Jump, When: when, To: in.E[0].Name}
	case "CAL":
		block := in.E[0].Name
		return Order{Does: Call, When: when, Block: block, Args: m.names.Args(block, in.Args)}
	case "RET":
		return Order{Does: Leave, When: when}
	case "NOT":
		return Order{Does: Invert, Kind: m.kind}
	case ")":
		return m.shut()
	case "S":
		return m.store(Set, false, in)
	case "R":
		return m.store(Reset, false, in)
	}
	name, opens := strings.CutSuffix(in.Op, "(")
	name, inverts := strings.CutSuffix(name, "N")
	switch {
	case name == "LD":
		return m.load(inverts, in)
	case name == "ST":
		return m.store(Store, inverts, in)
	case opens:
		return m.bracket(operation(name), inverts, in)
	}
	return m.operate(operation(name), inverts, in)
}

// condition tells an operator without C or CN, and when it is done by these.
func condition(op string) (string, int) {
	switch op {
	case "JMPC", "CALC", "RETC":
		return strings.TrimSuffix(op, "C"), IfTrue
	case "JMPCN", "CALCN", "RETCN":
		return strings.TrimSuffix(op, "CN"), IfFalse
	}
	return op, Always
}

// operation tells the operator of expressions that does what one of
// instructions does; 0, if none does.
func operation(name string) int {
	switch name {
	case "AND":
		return api.ExAnd
	case "OR":
		return api.ExOr
	case "XOR":
		return api.ExXor
	case "ADD":
		return api.ExAdd
	case "SUB":
		return api.ExSub
	case "MUL":
		return api.ExMul
	case "DIV":
		return api.ExDiv
	case "MOD":
		return api.ExMod
	case "GT":
		return api.ExGt
	case "GE":
		return api.ExGe
	case "EQ":
		return api.ExEq
	case "NE":
		return api.ExNe
	case "LE":
		return api.ExLe
	case "LT":
		return api.ExLt
	}
	return 0
}

func (m *maker) load(inverts bool, in api.Inst) Order {
	e := m.names.Elab(in.E[0], 0)
	m.kind = e.Kind
	return Order{Does: Load, Inverts: inverts, Kind: e.Kind, Operand: e}
}

func (m *maker) store(does int, inverts bool, in api.Inst) Order {
	return Order{Does: does, Inverts: inverts, Kind: m.kind, Operand: m.names.Elab(in.E[0], 0)}
}

func (m *maker) operate(op int, inverts bool, in api.Inst) Order {
	o := Order{Does: Operate, Op: op, Inverts: inverts, Kind: m.kind, Operand: m.names.Elab(in.E[0], m.kind)}
	m.kind = kindOf(o)
	return o
}

// bracket tells the order that opens one. What it is opened for waits till it
// is shut: the operand is loaded, and nothing is asked of it.
func (m *maker) bracket(op int, inverts bool, in api.Inst) Order {
	m.open = append(m.open, Order{Does: Shut, Op: op, Inverts: inverts, Kind: m.kind})
	operand := api.Expr{Op: api.ExLit}
	if len(in.E) > 0 {
		operand = m.names.Elab(in.E[0], 0)
	}
	m.kind = operand.Kind
	return Order{Does: Open, Operand: operand}
}

func (m *maker) shut() Order {
	last := len(m.open) - 1
	o := m.open[last]
	m.open = m.open[:last]
	m.kind = kindOf(o)
	return o
}

// kindOf tells the accumulator's kind behind an operation.
func kindOf(o Order) int {
	switch o.Op {
	case api.ExLt, api.ExGt, api.ExLe, api.ExGe, api.ExEq, api.ExNe:
		return api.KBool
	}
	return o.Kind
}
