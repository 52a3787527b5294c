package names

import "rung/api"

// Statements tells them with their expressions elaborated, once for all times
// that a loop comes by. It goes by what each kind of statement has: trees may
// have more, which says nothing, and may be endless.
func (n Names) Statements(l []api.Stmt) []api.Stmt {
	all := make([]api.Stmt, len(l))
	for i, s := range l {
		all[i] = n.statement(s)
	}
	return all
}

func (n Names) statement(s api.Stmt) api.Stmt {
	x := api.Stmt{Op: s.Op, V: s.V}
	switch s.Op {
	case api.StAssign:
		x.V = n.Elab(s.V, 0)
		x.E = n.all(s.E, x.V.Kind)
	case api.StIf:
		x.Arms = n.arms(s.Arms, 0)
	case api.StCase:
		x.E = n.all(s.E, 0)
		x.Arms = n.arms(s.Arms, x.E[0].Kind)
	case api.StFor:
		x.V = n.Elab(s.V, 0)
		x.E = n.all(s.E, x.V.Kind)
		x.Body = n.Statements(s.Body)
	case api.StWhile, api.StRepeat:
		x.E = n.all(s.E, api.KBool)
		x.Body = n.Statements(s.Body)
	case api.StCall:
		x.Args = n.Args(s.V.Name, s.Args)
	}
	return x
}

// arms tells those of an IF, or of a CASE, whose labels are of that kind.
func (n Names) arms(l []api.Arm, kind int) []api.Arm {
	all := make([]api.Arm, len(l))
	for i, arm := range l {
		all[i] = api.Arm{E: n.all(arm.E, api.KBool), Body: n.Statements(arm.Body)}
		for _, bounds := range arm.Labels {
			pair := [2]api.Expr{n.Elab(bounds[0], kind), n.Elab(bounds[1], kind)}
			all[i].Labels = append(all[i].Labels, pair)
		}
	}
	return all
}

func (n Names) all(l []api.Expr, want int) []api.Expr {
	all := make([]api.Expr, len(l))
	for i, e := range l {
		all[i] = n.Elab(e, want)
	}
	return all
}
