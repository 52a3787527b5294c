package sem

import (
	"rung/api"
	"rung/num"
	"rung/reckon"
)

// scan: one that is being done, of a program that was checked.
type scan struct {
	*reckon.Memory
	now  int64
	step func() bool // counts a step; false: none may be begun any more
}

// end: what a statement tells of what is done behind it: of none of these the
// next one.
type end struct {
	loop  bool // nothing more of the loop around it
	scan  bool // nothing more of the scan
	fault int  // by which the scan ended
}

func faulted(fault int) end { return end{scan: true, fault: fault} }

// past tells how a loop ends whose statements end so: what ends a loop ends the
// innermost one alone.
func (e end) past() end {
	e.loop = false
	return e
}

func (s *scan) statements(l []api.Stmt) end {
	for _, x := range l {
		if !s.step() {
			return faulted(api.FaultSteps)
		}
		if e := s.statement(x); e != (end{}) {
			return e
		}
	}
	return end{}
}

func (s *scan) statement(x api.Stmt) end {
	switch x.Op {
	case api.StAssign:
		return s.assign(x)
	case api.StIf:
		return s.ifStatement(x)
	case api.StCase:
		return s.caseStatement(x)
	case api.StFor:
		return s.forLoop(x)
	case api.StWhile:
		return s.whileLoop(x)
	case api.StRepeat:
		return s.repeatLoop(x)
	case api.StExit:
		return end{loop: true}
	case api.StReturn:
		return end{scan: true}
	}
	return s.blockCall(x)
}

// assign reckons the target's index ahead of what it is assigned.
func (s *scan) assign(x api.Stmt) end {
	cell, fault := s.Cell(x.V)
	if fault != api.FaultNone {
		return faulted(fault)
	}
	n, fault := s.Number(x.E[0])
	if fault != api.FaultNone {
		return faulted(fault)
	}
	s.Set(cell, n)
	return end{}
}

func (s *scan) ifStatement(x api.Stmt) end {
	for _, arm := range x.Arms {
		holds, fault := s.condition(arm.E)
		if fault != api.FaultNone {
			return faulted(fault)
		}
		if holds {
			return s.statements(arm.Body)
		}
	}
	return end{}
}

// condition tells whether an arm's holds. ELSE has none: it always does.
func (s *scan) condition(l []api.Expr) (bool, int) {
	if len(l) == 0 {
		return true, api.FaultNone
	}
	n, fault := s.Number(l[0])
	return n != 0, fault
}

func (s *scan) caseStatement(x api.Stmt) end {
	n, fault := s.Number(x.E[0])
	if fault != api.FaultNone {
		return faulted(fault)
	}
	for _, arm := range x.Arms {
		if len(arm.Labels) == 0 || has(arm.Labels, n) {
			return s.statements(arm.Body)
		}
	}
	return end{}
}

func has(labels [][2]api.Expr, n int64) bool {
	for _, bounds := range labels {
		if bounds[0].N <= n && n <= bounds[1].N {
			return true
		}
	}
	return false
}

// forLoop goes by the variable's cell, to which the loop's statements may assign.
func (s *scan) forLoop(x api.Stmt) end {
	bounds := [3]int64{0, 0, 1}
	for i, e := range x.E {
		n, fault := s.Number(e)
		if fault != api.FaultNone {
			return faulted(fault)
		}
		bounds[i] = n
	}
	from, to, by := bounds[0], bounds[1], bounds[2]
	least, greatest := num.Range(x.V.Kind)
	variable, _ := s.Cell(x.V) // it has no index that might fault
	for next := from; least <= next && next <= greatest; next = s.Get(variable) + by {
		s.Set(variable, next)
		if !s.step() {
			return faulted(api.FaultSteps)
		}
		if by >= 0 && next > to || by < 0 && next < to {
			return end{}
		}
		if e := s.statements(x.Body); e != (end{}) {
			return e.past()
		}
	}
	return end{}
}

func (s *scan) whileLoop(x api.Stmt) end {
	for {
		holds, fault := s.test(x)
		if fault != api.FaultNone {
			return faulted(fault)
		}
		if !holds {
			return end{}
		}
		if e := s.statements(x.Body); e != (end{}) {
			return e.past()
		}
	}
}

func (s *scan) repeatLoop(x api.Stmt) end {
	for {
		if e := s.statements(x.Body); e != (end{}) {
			return e.past()
		}
		holds, fault := s.test(x)
		if fault != api.FaultNone {
			return faulted(fault)
		}
		if holds {
			return end{}
		}
	}
}

// test tells whether a loop's condition holds: that is a step of its own.
func (s *scan) test(x api.Stmt) (bool, int) {
	if !s.step() {
		return false, api.FaultSteps
	}
	return s.condition(x.E)
}

func (s *scan) blockCall(x api.Stmt) end {
	if fault := s.Call(x.V.Name, x.Args, s.now); fault != api.FaultNone {
		return faulted(fault)
	}
	return end{}
}
