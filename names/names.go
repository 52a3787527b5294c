// Package names: what a checked program's names come to: the kinds of its
// expressions and statements, and its cells. What a program means, and its code,
// go by these alike.
package names

import (
	"slices"

	"rung/api"
	"rung/check"
	"rung/types"
)

// Names: a checked program's declarations, by their names.
type Names struct {
	p       api.Prog
	vars    map[string]int
	structs map[string]int
}

// Of finds them, once for all expressions of a program.
func Of(p api.Prog) Names {
	n := Names{p: p, vars: map[string]int{}, structs: map[string]int{}}
	for i, v := range p.Vars {
		n.vars[v.Name] = i
	}
	for i, s := range p.Structs {
		n.structs[s.Name] = i
	}
	return n
}

// Block tells the block that a variable of that name is.
func (n Names) Block(name string) string { return n.p.Vars[n.vars[name]].T.Name }

// Args tells the arguments of a block's call elaborated, each asked for its
// pin's kind.
func (n Names) Args(name string, l []api.Arg) []api.Arg {
	block := n.Block(name)
	all := make([]api.Arg, len(l))
	for i, a := range l {
		all[i] = api.Arg{Name: a.Name, E: n.Elab(a.E, types.Pin(block, a.Name))}
	}
	return all
}

// Elab elaborates an expression of the program: it was checked, so that there
// is no error.
func (n Names) Elab(e api.Expr, want int) api.Expr {
	var named api.Prog
	n.declare(&named, e)
	x, _ := check.Elab(named, e, want)
	return x
}

// declare adds to p what e names, fields one by one: e's kinds hang on nothing
// else, and check.Elab goes through all that is declared, each time.
func (n Names) declare(p *api.Prog, e api.Expr) {
	switch e.Op {
	case api.ExLit:
		return // Whatever a tree hangs on a literal says nothing.
	case api.ExVar:
		v := n.p.Vars[n.vars[e.Name]]
		if find(p.Vars, e.Name) < 0 {
			p.Vars = append(p.Vars, v)
		}
		if i, ok := n.structs[v.T.Name]; ok && e.Field != "" {
			declareField(p, n.p.Structs[i], e.Field)
		}
	}
	for _, x := range e.L {
		n.declare(p, x)
	}
}

func declareField(p *api.Prog, s api.Struct, name string) {
	i := slices.IndexFunc(p.Structs, func(o api.Struct) bool { return o.Name == s.Name })
	if i < 0 {
		i = len(p.Structs)
		p.Structs = append(p.Structs, api.Struct{Name: s.Name})
	}
	if own := &p.Structs[i]; find(own.Fields, name) < 0 {
		own.Fields = append(own.Fields, s.Fields[find(s.Fields, name)])
	}
}

// find tells which variable, or field, has that name; -1, if none has.
func find(l []api.Var, name string) int {
	return slices.IndexFunc(l, func(v api.Var) bool { return v.Name == name })
}
