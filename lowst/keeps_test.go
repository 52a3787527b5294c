package lowst_test

import "rung/api"

// keeps tells how many numbers a program keeps, as P22.1 says.
func keeps(p api.Prog) int { return keepsBody(p.Body) }

// keepsOperands: of the k-th, k and what that keeps; 1 at least.
func keepsOperands(l []api.Expr) int {
	most := 1
	for k, e := range l {
		most = max(most, k+keepsOperands(e.L))
	}
	return most
}

func keepsBody(l []api.Stmt) int {
	most := 0
	for _, s := range l {
		most = max(most, keepsStmt(s))
	}
	return most
}

func keepsStmt(s api.Stmt) int {
	switch s.Op {
	case api.StAssign:
		return max(keepsOperands(s.V.L), 1+keepsOperands(s.E[0].L))
	case api.StCall:
		var args []api.Expr
		for _, a := range s.Args {
			args = append(args, a.E)
		}
		return keepsOperands(args)
	case api.StFor:
		return max(keepsOperands(s.E), 4+keepsBody(s.Body))
	case api.StCase:
		return max(keepsOperands(s.E[0].L), 2+keepsArms(s.Arms))
	case api.StIf:
		return keepsArms(s.Arms)
	}
	most := keepsBody(s.Body)
	for _, e := range s.E {
		most = max(most, keepsOperands(e.L))
	}
	return most
}

func keepsArms(l []api.Arm) int {
	most := 0
	for _, a := range l {
		for _, e := range a.E {
			most = max(most, keepsOperands(e.L))
		}
		most = max(most, keepsBody(a.Body))
	}
	return most
}

// sizeOf tells how many statements and expressions there are, a label of a CASE
// being one, or two.
func sizeOf(p api.Prog) int { return sizeBody(p.Body) }

func sizeExprs(l []api.Expr) int {
	n := len(l)
	for _, e := range l {
		n += sizeExprs(e.L)
	}
	return n
}

func sizeBody(l []api.Stmt) int {
	n := len(l)
	for _, s := range l {
		n += sizeExprs(s.E) + sizeBody(s.Body)
		if s.V.Op != 0 {
			n += sizeExprs([]api.Expr{s.V})
		}
		for _, a := range s.Args {
			n += sizeExprs([]api.Expr{a.E})
		}
		for _, a := range s.Arms {
			n += sizeExprs(a.E) + sizeBody(a.Body)
			for _, bounds := range a.Labels {
				n++
				if bounds[0].N != bounds[1].N {
					n++
				}
			}
		}
	}
	return n
}
