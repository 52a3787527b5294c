package lowil

import (
	"rung/api"
	"rung/emit"
	"rung/orders"
)

// reckon adds an order that makes a new accumulator.
func (l *lowering) reckon(o orders.Order, asked bool) {
	if o.Does == orders.Open && o.Operand.Kind == 0 {
		return // What stands in the bracket begins with a load.
	}
	switch o.Does {
	case orders.Load, orders.Open, orders.Operate:
		l.Number(o.Operand)
	case orders.Invert:
		l.Not(o.Kind)
	}
	l.modify(o)
	switch o.Does {
	case orders.Operate, orders.Shut:
		l.Apply(o.Kind, o.Op)
	}
	l.settle(asked)
}

// modify adds what N makes of the topmost number.
func (l *lowering) modify(o orders.Order) {
	if o.Inverts {
		l.Not(o.Kind)
	}
}

// settle leaves the accumulator, which is topmost, only if it is asked for.
func (l *lowering) settle(asked bool) {
	if !asked {
		l.Drop()
	}
}

// assign adds what assigns to a cell, or to one of an array's.
func (l *lowering) assign(o orders.Order, asked bool) {
	cell, ok := l.Fixed(o.Operand)
	if !ok {
		l.assignElement(o, asked)
		return
	}
	if asked {
		l.Dup()
	}
	l.assigned(o, func() { l.Load(cell) })
	l.Store(cell)
}

// assignElement reckons the index once: it stays below what is assigned.
func (l *lowering) assignElement(o orders.Order, asked bool) {
	l.Number(o.Operand.L[0])
	l.Pick(1)
	l.assigned(o, func() {
		l.Pick(1)
		l.Element(api.OpLoadAt, o.Operand)
	})
	l.Element(api.OpStoreAt, o.Operand)
	l.settle(asked)
}

// assigned makes of the accumulator, which is topmost, what is assigned. S and R
// take what is there already, which old adds: where they change nothing, it is
// assigned again.
func (l *lowering) assigned(o orders.Order, old func()) {
	switch o.Does {
	case orders.Store:
		l.modify(o)
	case orders.Set:
		old()
		l.Apply(api.KBool, api.ExOr)
	case orders.Reset:
		l.Not(api.KBool)
		old()
		l.Apply(api.KBool, api.ExAnd)
	}
}

// jump takes the accumulator off: nothing asks for it at a label.
func (l *lowering) jump(o orders.Order, asked bool) {
	op := api.OpJump
	switch o.When {
	case orders.IfTrue:
		op = api.OpOther
	case orders.IfFalse:
		op = api.OpZero
	}
	l.jumps = append(l.jumps, departure{l.Jump(op), o.To})
	l.restore(o, asked)
}

// restore puts the accumulator on again where an order wasn't done that hangs on
// it: it is known there.
func (l *lowering) restore(o orders.Order, asked bool) {
	switch {
	case !asked:
	case o.When == orders.IfTrue:
		l.Push(api.KBool, 0)
	case o.When == orders.IfFalse:
		l.Push(api.KBool, 1)
	}
}

func (l *lowering) leave(o orders.Order, asked bool) {
	past := l.past(o)
	l.End()
	past(l.Here())
	l.restore(o, asked)
}

func (l *lowering) call(o orders.Order, asked bool) {
	if o.When != orders.Always && asked {
		l.Dup()
	}
	past := l.past(o)
	l.BlockCall(o.Block, o.Args)
	past(l.Here())
}

// past adds the jump past an order that isn't done.
func (l *lowering) past(o orders.Order) emit.Landing {
	switch o.When {
	case orders.IfTrue:
		return l.Jump(api.OpZero)
	case orders.IfFalse:
		return l.Jump(api.OpOther)
	}
	return func(int) {}
}
