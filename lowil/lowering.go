package lowil

import (
	"rung/emit"
	"rung/orders"
)

// lowering: a program's code, as far as it is made. Between two orders the
// accumulators that wait for a bracket's other end lie on the stack, the
// innermost topmost, and above them the accumulator, if an order behind may ask
// for it: nothing may behind a label, so that the stack is empty there, whatever
// way leads to it.
type lowering struct {
	*emit.Emitter
	labels map[string]int // by label: the code's instruction behind it
	jumps  []departure
}

// departure: a jump that was added, and the label that it goes to.
type departure struct {
	land emit.Landing
	to   string
}

func (l *lowering) all(list []orders.Order) {
	asked := askedBehind(list)
	for i, o := range list {
		if o.Label != "" {
			l.labels[o.Label] = l.Here()
		}
		if o.Does != orders.Nothing {
			l.Step()
			l.order(o, asked[i])
		}
	}
}

// land lets all jumps go on at their labels.
func (l *lowering) land() {
	for _, j := range l.jumps {
		j.land(l.labels[j.to])
	}
}

// askedBehind tells of each order whether the accumulator behind it, or what is
// on its way to be one, is asked for further on.
func askedBehind(list []orders.Order) []bool {
	asked := make([]bool, len(list))
	for i := len(list) - 1; i > 0; i-- {
		asked[i-1] = asks(list[i], asked[i])
	}
	return asked
}

// asks tells whether the accumulator ahead of an order is asked for, by it or
// behind it.
func asks(o orders.Order, behind bool) bool {
	switch {
	case o.Label != "":
		return false
	case o.When != orders.Always:
		return true
	}
	switch o.Does {
	case orders.Load, orders.Jump, orders.Leave:
		return false
	case orders.Call:
		return behind
	}
	return true
}

// order adds an order; asked: whether the accumulator behind it is asked for.
func (l *lowering) order(o orders.Order, asked bool) {
	switch o.Does {
	case orders.Store, orders.Set, orders.Reset:
		l.assign(o, asked)
	case orders.Jump:
		l.jump(o, asked)
	case orders.Leave:
		l.leave(o, asked)
	case orders.Call:
		l.call(o, asked)
	default:
		l.reckon(o, asked)
	}
}
