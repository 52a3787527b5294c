package check

import (
	"slices"
	"strings"

	"rung/api"
)

// The chapter told a second time, by tables, and with errors that are handed
// back; it takes the programs that a maker makes up: trees such as texts are
// read as, with head's declarations.

type fault = *api.PlaceError

func at(place int, e api.Errno) fault { return &api.PlaceError{At: place, Err: e} }

// mayStand: of each operator of one or two operands the kinds that it is of.
var mayStand = map[int][]int{
	api.ExNeg: signed, api.ExNot: bits, api.ExAdd: amounts, api.ExSub: amounts, api.ExMul: integers, api.ExDiv: integers, api.ExMod: integers, api.ExAnd: bits, api.ExOr: bits, api.ExXor: bits,
	api.ExLt: scalars, api.ExGt: scalars, api.ExLe: scalars, api.ExGe: scalars, api.ExEq: scalars, api.ExNe: scalars,
}

func comparison(op int) bool { return op >= api.ExLt && op <= api.ExNe }

// named tells what head declares by that name: a kind, and what it is of: v, a
// (an array), q (the struct), b (a block), i (an input); 0: nothing.
func named(name string) (byte, int, string) {
	switch name {
	case "q":
		return 'q', 0, ""
	case "ix":
		return 'i', api.KBool, ""
	case "iw":
		return 'i', api.KInt, ""
	case "qx", "mx":
		return 'v', api.KBool, ""
	case "qw":
		return 'v', api.KInt, ""
	case "mw":
		return 'v', api.KWord, ""
	}
	if name == "" {
		return 0, 0, ""
	}
	if k := slices.Index(words, name[1:]); k > 0 && (name[0] == 'v' || name[0] == 'a') {
		return name[0], k, ""
	}
	if _, ok := modelPins[name[1:]]; ok && name[0] == 'b' {
		return 'b', 0, name[1:]
	}
	return 0, 0, ""
}

// modelPins: inputs, then outputs, with their kinds.
var modelPins = map[string][2]string{
	"TON": {"IN BOOL PT TIME", "Q BOOL ET TIME"}, "TOF": {"IN BOOL PT TIME", "Q BOOL ET TIME"}, "TP": {"IN BOOL PT TIME", "Q BOOL ET TIME"},
	"CTU": {"CU BOOL R BOOL PV INT", "Q BOOL CV INT"}, "CTD": {"CD BOOL LD BOOL PV INT", "Q BOOL CV INT"}, "CTUD": {"CU BOOL CD BOOL R BOOL LD BOOL PV INT", "QU BOOL QD BOOL CV INT"},
	"R_TRIG": {"CLK BOOL", "Q BOOL"}, "F_TRIG": {"CLK BOOL", "Q BOOL"}, "SR": {"S1 BOOL R BOOL", "Q1 BOOL"}, "RS": {"S BOOL R1 BOOL", "Q1 BOOL"},
}

// pinKind tells a pin's kind, and whether it is an input; 0: there is none.
func pinKind(block, pin string) (int, bool) {
	for side, text := range modelPins[block] {
		l := strings.Fields(text)
		for i := 0; i < len(l); i += 2 {
			if l[i] == pin {
				return slices.Index(words, l[i+1]), side == 0
			}
		}
	}
	return 0, false
}

func modelPlain(e api.Expr) bool {
	return e.Op == api.ExLit && e.Kind == 0 || e.Op == api.ExNeg && e.L[0].Op == api.ExLit && e.L[0].Kind == 0
}

func modelNumber(e api.Expr) int64 {
	if e.Op == api.ExNeg {
		return -e.L[0].N
	}
	return e.N
}

// modelKind tells an expression's kind.
func modelKind(e api.Expr, want int) (int, fault) {
	k, f := modelOwn(e, want)
	if f == nil && want != 0 && want != k {
		f = at(e.At, api.ErrKind)
	}
	return k, f
}

func modelOwn(e api.Expr, want int) (int, fault) {
	switch {
	case modelPlain(e):
		k := want
		if k == api.KTime {
			return 0, at(e.At, api.ErrKind)
		}
		if k == 0 {
			k = api.KDint
		}
		if n := modelNumber(e); n < ranges[k][0] || n > ranges[k][1] {
			return 0, at(e.At, api.ErrConst)
		}
		return k, nil
	case e.Op == api.ExLit:
		return e.Kind, nil
	case e.Op == api.ExVar:
		return modelVar(e)
	case e.Op == api.ExCall:
		return modelCall(e, want)
	}
	if comparison(e.Op) {
		want = 0
	}
	order := []int{0}
	if len(e.L) == 2 {
		order = []int{0, 1}
		if modelPlain(e.L[0]) && !modelPlain(e.L[1]) {
			order = []int{1, 0}
		}
	}
	for _, i := range order {
		k, f := modelKind(e.L[i], want)
		if f != nil {
			return 0, f
		}
		want = k
	}
	if !slices.Contains(mayStand[e.Op], want) {
		return 0, at(e.At, api.ErrKind)
	}
	if comparison(e.Op) {
		want = api.KBool
	}
	return want, nil
}

func modelVar(e api.Expr) (int, fault) {
	what, k, block := named(e.Name)
	switch {
	case what == 0:
		return 0, at(e.At, api.ErrName)
	case e.Field != "" && what == 'q':
		if k = slices.Index(words, e.Field[1:]); k <= 0 || e.Field[0] != 'f' {
			return 0, at(e.At, api.ErrName)
		}
		return k, nil
	case e.Field != "":
		if k, _ = pinKind(block, e.Field); k == 0 {
			return 0, at(e.At, api.ErrName)
		}
		return k, nil
	case len(e.L) == 0 && (what == 'v' || what == 'i'):
		return k, nil
	case len(e.L) == 0 || what != 'a':
		return 0, at(e.At, api.ErrKind)
	}
	i, f := modelKind(e.L[0], 0)
	if f == nil && (i == api.KBool || i == api.KTime) {
		f = at(e.L[0].At, api.ErrKind)
	}
	return k, f
}

// signatures: of each function, for each operand, the kinds that it is of; none:
// that of the one ahead of it.
var signatures = map[string][][]int{
	"ABS": {signed}, "MIN": {amounts, nil}, "MAX": {amounts, nil}, "LIMIT": {amounts, nil, nil}, "SEL": {{api.KBool}, scalars, nil},
	"SHL": {moved, {api.KUint}}, "SHR": {moved, {api.KUint}}, "ROL": {moved, {api.KUint}}, "ROR": {moved, {api.KUint}},
}

func modelCall(e api.Expr, want int) (int, fault) {
	l := signatures[e.Name]
	from, to := 0, 0
	for _, k := range scalars {
		for _, k2 := range scalars {
			if e.Name == words[k]+"_TO_"+words[k2] {
				l, from, to = [][]int{{k}}, k, k2
			}
		}
	}
	if len(l) != len(e.L) || l == nil {
		return 0, at(e.At, api.ErrCall)
	}
	first := 0
	for i, may := range l {
		ask := want
		switch {
		case len(may) == 1:
			ask = may[0]
		case may == nil:
			ask = first
		}
		k, f := modelKind(e.L[i], ask)
		if f == nil && may != nil && !slices.Contains(may, k) {
			f = at(e.L[i].At, api.ErrKind)
		}
		if f != nil {
			return 0, f
		}
		if len(may) > 1 {
			first = k
		}
	}
	if from != 0 {
		return to, nil
	}
	return first, nil
}

// modelTarget tells the kind of what may be assigned to.
func modelTarget(e api.Expr) (int, fault) {
	what, _, _ := named(e.Name)
	switch {
	case e.Op != api.ExVar || what == 'b' || what == 'i':
		return 0, at(e.At, api.ErrTarget)
	case e.Field == "" && what == 'q', what == 'a' && e.Field == "" && len(e.L) == 0, what == 'v' && len(e.L) > 0:
		return 0, at(e.At, api.ErrTarget)
	}
	return modelKind(e, 0)
}

// first tells the first fault of those that are asked for, one after the other.
func first(l ...func() fault) fault {
	for _, x := range l {
		if f := x(); f != nil {
			return f
		}
	}
	return nil
}

func asked(e api.Expr, want int) func() fault {
	return func() fault { _, f := modelKind(e, want); return f }
}

func within(l []api.Stmt, loops int) func() fault {
	return func() fault {
		for _, s := range l {
			if f := modelStmt(s, loops); f != nil {
				return f
			}
		}
		return nil
	}
}

func modelStmt(s api.Stmt, loops int) fault {
	switch s.Op {
	case api.StAssign:
		k, f := modelTarget(s.V)
		return first(func() fault { return f }, asked(s.E[0], k))
	case api.StIf:
		var l []func() fault
		for _, a := range s.Arms {
			for _, e := range a.E {
				l = append(l, asked(e, api.KBool))
			}
			l = append(l, within(a.Body, loops))
		}
		return first(l...)
	case api.StCase:
		return modelCase(s, loops)
	case api.StFor:
		k, f := modelTarget(s.V)
		if f == nil && !slices.Contains(integers, k) {
			f = at(s.V.At, api.ErrTarget)
		}
		l := []func() fault{func() fault { return f }}
		for _, e := range s.E {
			l = append(l, asked(e, k))
		}
		return first(append(l, within(s.Body, loops+1))...)
	case api.StWhile:
		return first(asked(s.E[0], api.KBool), within(s.Body, loops+1))
	case api.StRepeat:
		return first(within(s.Body, loops+1), asked(s.E[0], api.KBool))
	case api.StExit:
		if loops == 0 {
			return at(s.At, api.ErrExit)
		}
	case api.StCall:
		return modelArgs(s.V.Name, s.Args, s.At)
	}
	return nil
}

func modelCase(s api.Stmt, loops int) fault {
	k, f := modelKind(s.E[0], 0)
	if f == nil && !slices.Contains(integers, k) {
		f = at(s.E[0].At, api.ErrKind)
	}
	if f != nil {
		return f
	}
	for _, a := range s.Arms {
		for _, pair := range a.Labels {
			for _, e := range pair {
				n := modelNumber
				switch {
				case modelPlain(e) && n(e) >= ranges[k][0] && n(e) <= ranges[k][1]:
				case e.Op == api.ExLit && e.Kind == k:
				default:
					return at(e.At, api.ErrConst)
				}
			}
			if modelNumber(pair[0]) > modelNumber(pair[1]) {
				return at(pair[0].At, api.ErrConst)
			}
		}
		if f := within(a.Body, loops)(); f != nil {
			return f
		}
	}
	return nil
}

func modelArgs(name string, args []api.Arg, place int) fault {
	what, _, block := named(name)
	if what != 'b' {
		return at(place, api.ErrCall)
	}
	for i, a := range args {
		k, input := pinKind(block, a.Name)
		if !input || slices.ContainsFunc(args[:i], func(o api.Arg) bool { return o.Name == a.Name }) {
			return at(a.At, api.ErrCall)
		}
		if f := asked(a.E, k)(); f != nil {
			return f
		}
	}
	return nil
}

// modelCode tells what is wrong first in instructions.
func modelCode(code []api.Inst) fault {
	for i, in := range code {
		stands := func(label string) func(api.Inst) bool {
			return func(o api.Inst) bool { return o.Label == label }
		}
		if in.Label != "" && slices.ContainsFunc(code[:i], stands(in.Label)) {
			return at(in.At, api.ErrLabel)
		}
		op := in.Op
		base := strings.TrimSuffix(op, "(")
		need, may := 1, 1
		switch {
		case op == "":
			need, may = 0, 0
		case strings.Contains(" NOT RET RETC RETCN ) ", " "+op+" "):
			need, may = 0, 0
		case base != op && operations[base] != nil:
			need = 0
		case operations[op] != nil, strings.Contains(" LD LDN ST STN S R JMP JMPC JMPCN CAL CALC CALCN ", " "+op+" "):
		default:
			return at(in.At, api.ErrOp)
		}
		if len(in.E) < need || len(in.E) > may {
			return at(in.At, api.ErrOp)
		}
		if strings.HasPrefix(op, "JMP") && !slices.ContainsFunc(code, stands(in.E[0].Name)) {
			return at(in.At, api.ErrLabel)
		}
	}
	var open []int
	f, next, _ := modelRun(code, 0, 0, false, &open)
	switch {
	case f == nil && next < len(code):
		f = at(code[next].At, api.ErrBracket)
	case f == nil && len(open) > 0:
		f = at(slices.Min(open), api.ErrBracket)
	}
	return f
}

// modelRun goes on up to a ) that it hasn't opened, or the end, and tells where
// it stands, and the accumulator's kind; open: the places of brackets that are
// open at the end.
func modelRun(code []api.Inst, i, acc int, inner bool, open *[]int) (fault, int, int) {
	for ; i < len(code); i++ {
		in := code[i]
		away := in.Op != "" && strings.Contains(" JMP JMPC JMPCN CAL CALC CALCN RET RETC RETCN ", " "+in.Op+" ")
		if inner && (in.Label != "" || away) {
			return at(in.At, api.ErrBracket), i, 0
		}
		if in.Label != "" {
			acc = 0
		}
		if in.Op == ")" {
			return nil, i, acc
		}
		base := strings.TrimSuffix(in.Op, "(")
		if base != in.Op {
			start := 0
			for _, e := range in.E {
				k, f := modelKind(e, 0)
				if f != nil {
					return f, i, 0
				}
				start = k
			}
			if !slices.Contains(operations[base], acc) {
				return at(in.At, api.ErrKind), i, 0
			}
			f, end, k := modelRun(code, i+1, start, true, open)
			switch {
			case f != nil:
				return f, i, 0
			case end == len(code):
				*open = append(*open, in.At)
				return nil, end, 0
			case k != acc:
				return at(code[end].At, api.ErrKind), i, 0
			}
			i = end
			acc = after(base, acc)
			continue
		}
		f, k := modelStep(in, acc)
		if f != nil {
			return f, i, 0
		}
		acc = k
	}
	return nil, i, acc
}

func after(op string, acc int) int {
	if strings.Contains(" GT GE EQ NE LE LT ", " "+op+" ") {
		return api.KBool
	}
	return acc
}

// modelStep tells the accumulator's kind behind an instruction without brackets.
func modelStep(in api.Inst, acc int) (fault, int) {
	wrong := at(in.At, api.ErrKind)
	switch in.Op {
	case "", "JMP", "RET":
		return nil, acc
	case "LD", "LDN":
		k, f := modelKind(in.E[0], 0)
		if f == nil && in.Op == "LDN" && !slices.Contains(bits, k) {
			f = wrong
		}
		return f, k
	case "ST", "STN", "S", "R":
		k, f := modelTarget(in.E[0])
		if f == nil && (k != acc || in.Op == "STN" && !slices.Contains(bits, k) || len(in.Op) == 1 && k != api.KBool) {
			f = wrong
		}
		return f, acc
	case "NOT":
		if !slices.Contains(bits, acc) {
			return wrong, 0
		}
		return nil, acc
	case "JMPC", "JMPCN", "RETC", "RETCN", "CALC", "CALCN":
		if acc != api.KBool {
			return wrong, 0
		}
	}
	if strings.HasPrefix(in.Op, "CAL") {
		return modelArgs(in.E[0].Name, in.Args, in.At), acc
	}
	if len(in.E) == 0 {
		return nil, acc
	}
	if strings.HasPrefix(in.Op, "JMP") {
		return nil, acc
	}
	_, f := modelKind(in.E[0], acc)
	if f == nil && !slices.Contains(operations[in.Op], acc) {
		f = wrong
	}
	return f, after(in.Op, acc)
}
