package vm

import (
	"rung/api"
	"rung/fb"
	"rung/num"
)

// mostDone is how many instructions a scan may do.
const mostDone = 1 << 22

// keeps is how many cells a block has behind its pins.
const keeps = 3

// scan is one scan of code that is verified. So its stack is asked nothing:
// there is always a number to take off, and room for one to put on.
type scan struct {
	code  api.Code
	cells []int64
	now   int64
	most  int // steps that may be done
	steps int // steps that were done
	at    int // the next instruction
	stack [api.MaxStack]int64
	depth int // numbers on the stack
}

// run does instructions till the end of the scan, or a fault.
func (s *scan) run() int {
	// The fault of a step too many, and of a loop that isn't left.
	fault := api.FaultSteps
loop:
	for range mostDone {
		x := &s.code.L[s.at]
		s.at++
		switch x.Op {
		case api.OpEnd:
			fault = api.FaultNone
			break loop
		case api.OpStep:
			if s.steps >= s.most {
				break loop
			}
			s.steps++
		case api.OpJump:
			s.at = x.A
		case api.OpZero:
			if s.pop() == 0 {
				s.at = x.A
			}
		case api.OpOther:
			if s.pop() != 0 {
				s.at = x.A
			}
		default:
			if f := s.do(x); f != api.FaultNone {
				fault = f
				break loop
			}
		}
	}
	return fault
}

// do does an instruction behind which the next one stands.
func (s *scan) do(x *api.Ins) int {
	switch x.Op {
	case api.OpPush:
		s.push(num.Wrap(x.A, x.C))
	case api.OpLoad:
		s.push(s.cells[x.A])
	case api.OpStore:
		s.store(x.A, s.pop())
	case api.OpDup:
		s.push(s.under(0))
	case api.OpPick:
		s.push(s.under(x.A))
	case api.OpDrop:
		s.pop()
	case api.OpCall:
		s.call(x.Name, x.A)
	case api.OpLoadAt, api.OpCheckAt, api.OpStoreAt:
		return s.element(x)
	default:
		return s.reckon(x)
	}
	return api.FaultNone
}

// element does an instruction of an array's element.
func (s *scan) element(x *api.Ins) int {
	var n int64
	if x.Op == api.OpStoreAt {
		n = s.pop()
	}
	index := s.pop()
	if index < x.C || index > x.C+int64(x.B-1) {
		return api.FaultIndex
	}
	cell := x.A + int(index-x.C)
	switch x.Op {
	case api.OpLoadAt:
		s.push(s.cells[cell])
	case api.OpCheckAt:
		s.push(index)
	case api.OpStoreAt:
		s.store(cell, n)
	}
	return api.FaultNone
}

// reckon does an instruction that makes one number of those on top.
func (s *scan) reckon(x *api.Ins) int {
	fault := api.FaultNone
	n := s.pop()
	switch x.Op {
	case api.OpNeg:
		n = num.Neg(x.A, n)
	case api.OpNot:
		n = num.Not(x.A, n)
	case api.OpAbs:
		n = abs(x.A, n)
	case api.OpConvert:
		n = num.Convert(x.A, x.B, n)
	case api.OpApply:
		n, fault = num.Apply(x.B, x.A, s.pop(), n)
	case api.OpShift:
		n = num.Shift(x.Name, x.A, s.pop(), n)
	case api.OpMin:
		n = min(s.pop(), n)
	case api.OpMax:
		n = max(s.pop(), n)
	case api.OpSel:
		n = s.choose(n)
	}
	s.push(n)
	return fault
}

// choose takes the first and the second of OpSel's numbers off: the one that is
// told.
func (s *scan) choose(third int64) int64 {
	second := s.pop()
	if s.pop() == 0 {
		return second
	}
	return third
}

// call does a step of the block whose cells begin there.
func (s *scan) call(block string, first int) {
	ins, outs := pins(block)
	in := s.cells[first : first+ins]
	out := s.cells[first+ins : first+ins+outs]
	kept := s.cells[first+ins+outs : first+ins+outs+keeps]
	told, keep := fb.Step(block, in, [keeps]int64(kept), out, s.now)
	copy(out, told)
	copy(kept, keep[:])
}

func (s *scan) store(cell int, n int64) { s.cells[cell] = num.Wrap(s.code.Kinds[cell], n) }

func (s *scan) push(n int64) {
	s.stack[s.depth] = n
	s.depth++
}

func (s *scan) pop() int64 {
	s.depth--
	return s.stack[s.depth]
}

// under tells the number that has so many others above it.
func (s *scan) under(others int) int64 { return s.stack[s.depth-1-others] }

func abs(kind int, n int64) int64 {
	if n = num.Wrap(kind, n); n < 0 {
		return num.Neg(kind, n)
	}
	return n
}

// pins tells how many inputs and outputs a block has: the types of blocks are
// of a layer that this one doesn't call.
func pins(block string) (ins, outs int) {
	switch block {
	case "R_TRIG", "F_TRIG":
		return 1, 1
	case "SR", "RS":
		return 2, 1
	case "CTU", "CTD":
		return 3, 2
	case "CTUD":
		return 5, 3
	}
	return 2, 2 // TON, TOF, TP
}
