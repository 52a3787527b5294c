package code

import "rung/api"

const wordBits = 64

// state is where a way through the code is: ahead of an instruction, with so
// many numbers on the stack. A way from there on hangs on nothing else, so each
// state is gone on from once.
type state struct{ at, depth int }

// meeting is what the ways that came to an instruction have told: the depth of
// the first one, and all depths: bit d % wordBits of word d / wordBits is d's.
type meeting struct {
	first int
	all   [api.MaxStack/wordBits + 1]uint64
}

// ways is the going through code whose instructions are right by themselves.
type ways struct {
	l     []api.Ins
	met   map[int]meeting // by instruction; none of those that weren't come to
	wait  []state         // those that are still to be gone on from
	wrong int             // the least number of an instruction that is wrong; len(l): none is
}

// goAllWays goes every way from the first instruction on; an error, if the code
// is wrong.
func goAllWays(c api.Code) (*ways, error) {
	if err := checkAlone(c); err != nil {
		return nil, err
	}
	w := &ways{l: c.L, met: map[int]meeting{}, wrong: len(c.L)}
	w.comeTo(0, 0)
	for len(w.wait) > 0 {
		last := len(w.wait) - 1
		s := w.wait[last]
		w.wait = w.wait[:last]
		w.goOn(s)
	}
	if w.wrong < len(w.l) {
		return nil, wrong(w.wrong)
	}
	return w, nil
}

// goOn does what the instruction does to the stack, and goes on to each one
// that may be next. A way ends where it is wrong, but for the depth that is
// unlike another way's: it may be wrong at a lesser number still.
func (w *ways) goOn(s state) {
	x := w.l[s.at]
	takes, puts := effect(x)
	depth := s.depth - takes + puts
	if s.depth < takes || depth > api.MaxStack {
		w.fail(s.at)
		return
	}
	switch x.Op {
	case api.OpEnd:
		return
	case api.OpJump:
		w.comeTo(x.A, depth)
		return
	case api.OpZero, api.OpOther:
		w.comeTo(x.A, depth)
	}
	if s.at+1 == len(w.l) {
		w.fail(s.at)
		return
	}
	w.comeTo(s.at+1, depth)
}

// comeTo notes that a way has come to an instruction.
func (w *ways) comeTo(at, depth int) {
	m, known := w.met[at]
	if !known {
		m.first = depth
	}
	if depth != m.first {
		w.fail(at)
	}
	word, bit := depth/wordBits, uint64(1)<<(depth%wordBits)
	if m.all[word]&bit != 0 {
		return
	}
	m.all[word] |= bit
	w.met[at] = m
	w.wait = append(w.wait, state{at, depth})
}

func (w *ways) fail(at int) { w.wrong = min(w.wrong, at) }

// depths tells the one depth that each instruction has, if the code is right.
func (w *ways) depths() []int {
	all := make([]int, len(w.l))
	for at := range all {
		all[at] = -1
		if m, known := w.met[at]; known {
			all[at] = m.first
		}
	}
	return all
}

// effect tells how many numbers x takes off the stack, and how many it puts on.
func effect(x api.Ins) (takes, puts int) {
	o := operators[x.Op]
	if x.Op == api.OpPick {
		return o.takes + x.A, o.puts + x.A
	}
	return o.takes, o.puts
}
