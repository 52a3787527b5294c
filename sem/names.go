package sem

import (
	"slices"

	"rung/api"
	"rung/check"
	"rung/types"
)

// names: a checked program's declarations, by their names.
type names struct {
	p       api.Prog
	vars    map[string]int
	structs map[string]int
}

func newNames(p api.Prog) names {
	n := names{p: p, vars: map[string]int{}, structs: map[string]int{}}
	for i, v := range p.Vars {
		n.vars[v.Name] = i
	}
	for i, s := range p.Structs {
		n.structs[s.Name] = i
	}
	return n
}

// statements tells them with their expressions elaborated, once for all times
// that a loop comes by. It goes by what each kind of statement has: trees may
// have more, which says nothing, and may be endless.
func (n names) statements(l []api.Stmt) []api.Stmt {
	all := make([]api.Stmt, len(l))
	for i, s := range l {
		all[i] = n.statement(s)
	}
	return all
}

func (n names) statement(s api.Stmt) api.Stmt {
	x := api.Stmt{Op: s.Op, V: s.V}
	switch s.Op {
	case api.StAssign:
		x.V = n.elab(s.V, 0)
		x.E = n.all(s.E, x.V.Kind)
	case api.StIf:
		x.Arms = n.arms(s.Arms, 0)
	case api.StCase:
		x.E = n.all(s.E, 0)
		x.Arms = n.arms(s.Arms, x.E[0].Kind)
	case api.StFor:
		x.V = n.elab(s.V, 0)
		x.E = n.all(s.E, x.V.Kind)
		x.Body = n.statements(s.Body)
	case api.StWhile, api.StRepeat:
		x.E = n.all(s.E, api.KBool)
		x.Body = n.statements(s.Body)
	case api.StCall:
		x.Args = n.args(s.V.Name, s.Args)
	}
	return x
}

// arms tells those of an IF, or of a CASE, whose labels are of that kind.
func (n names) arms(l []api.Arm, kind int) []api.Arm {
	all := make([]api.Arm, len(l))
	for i, arm := range l {
		all[i] = api.Arm{E: n.all(arm.E, api.KBool), Body: n.statements(arm.Body)}
		for _, bounds := range arm.Labels {
			pair := [2]api.Expr{n.elab(bounds[0], kind), n.elab(bounds[1], kind)}
			all[i].Labels = append(all[i].Labels, pair)
		}
	}
	return all
}

func (n names) args(name string, l []api.Arg) []api.Arg {
	block := n.p.Vars[n.vars[name]].T.Name
	all := make([]api.Arg, len(l))
	for i, a := range l {
		all[i] = api.Arg{Name: a.Name, E: n.elab(a.E, types.Pin(block, a.Name))}
	}
	return all
}

func (n names) all(l []api.Expr, want int) []api.Expr {
	all := make([]api.Expr, len(l))
	for i, e := range l {
		all[i] = n.elab(e, want)
	}
	return all
}

// elab elaborates an expression of the program: it was checked, so that there
// is no error.
func (n names) elab(e api.Expr, want int) api.Expr {
	var named api.Prog
	n.declare(&named, e)
	x, _ := check.Elab(named, e, want)
	return x
}

// declare adds to p what e names, fields one by one: e's kinds hang on nothing
// else, and check.Elab goes through all that is declared, each time.
func (n names) declare(p *api.Prog, e api.Expr) {
	switch e.Op {
	case api.ExLit:
		return // Whatever a tree hangs on a literal says nothing.
	case api.ExVar:
		v := n.p.Vars[n.vars[e.Name]]
		if find(p.Vars, e.Name) < 0 {
			p.Vars = append(p.Vars, v)
		}
		if i, ok := n.structs[v.T.Name]; ok && e.Field != "" {
			declareField(p, n.p.Structs[i], e.Field)
		}
	}
	for _, x := range e.L {
		n.declare(p, x)
	}
}

func declareField(p *api.Prog, s api.Struct, name string) {
	i := slices.IndexFunc(p.Structs, func(o api.Struct) bool { return o.Name == s.Name })
	if i < 0 {
		i = len(p.Structs)
		p.Structs = append(p.Structs, api.Struct{Name: s.Name})
	}
	if own := &p.Structs[i]; find(own.Fields, name) < 0 {
		own.Fields = append(own.Fields, s.Fields[find(s.Fields, name)])
	}
}

// find tells which variable, or field, has that name; -1, if none has.
func find(l []api.Var, name string) int {
	return slices.IndexFunc(l, func(v api.Var) bool { return v.Name == name })
}
