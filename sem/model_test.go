package sem

import (
	"fmt"
	"math/big"
	"strings"

	"rung/api"
	"rung/check"
	"rung/fb"
	"rung/types"
)

// model reads the chapter's words once more: numbers of any length, cells by
// their names, and what is to be done yet as a pile, the next thing on top.
type model struct {
	p     api.Prog
	names []string // of the cells, in order
	kinds map[string]int
	cells map[string]*big.Int
	now   int64
	most  int
	steps int
	pile  []task
}

// task: a statement that isn't begun; or of a loop that is: its test (FOR's with
// its bounds), or what is ahead of FOR's next one.
type task struct {
	what   string
	s      api.Stmt
	to, by *big.Int
}

// halt: the model's panic: a fault.
type halt int

func newModel(p api.Prog, given []int64, now int64, most int) *model {
	m := &model{p: p, kinds: map[string]int{}, cells: map[string]*big.Int{}, now: now, most: most}
	for i, c := range types.Cells(p) {
		name := p.Vars[c.Var].Name
		switch {
		case c.Field != "":
			name += "." + c.Field
		case p.Vars[c.Var].T.Kind == api.KArray:
			name += fmt.Sprintf("[%d]", c.Index)
		}
		m.names = append(m.names, name)
		m.kinds[name] = c.Kind
		m.put(name, big.NewInt(0))
		if i < len(given) {
			m.put(name, big.NewInt(given[i]))
		}
	}
	return m
}

// scan tells the fault by which a scan ends.
func (m *model) scan() (fault int) {
	defer func() {
		if cause := recover(); cause != nil {
			h, ok := cause.(halt)
			if !ok {
				panic(cause)
			}
			fault = int(h)
		}
	}()
	m.lay(m.p.Body)
	for len(m.pile) > 0 {
		m.do(m.take())
	}
	return api.FaultNone
}

func (m *model) numbers() []int64 {
	var l []int64
	for _, name := range m.names {
		l = append(l, m.cells[name].Int64())
	}
	return l
}

func (m *model) put(name string, n *big.Int) { m.cells[name] = wrapped(m.kinds[name], n) }

// lay puts statements onto the pile, the first on top.
func (m *model) lay(l []api.Stmt) {
	for i := range l {
		m.pile = append(m.pile, task{what: "begin", s: l[len(l)-1-i]})
	}
}

func (m *model) take() task {
	x := m.pile[len(m.pile)-1]
	m.pile = m.pile[:len(m.pile)-1]
	return x
}

func (m *model) step() {
	if m.steps >= m.most {
		panic(halt(api.FaultSteps))
	}
	m.steps++
}

func (m *model) do(x task) {
	switch x.what {
	case "begin":
		m.step()
		m.begin(x.s)
	case "test":
		m.step()
		m.test(x)
	case "next":
		name := x.s.V.Name
		n := new(big.Int).Add(m.cells[name], x.by)
		if wrapped(m.kinds[name], n).Cmp(n) == 0 {
			m.put(name, n)
			x.what = "test"
			m.pile = append(m.pile, x)
		}
	}
}

func (m *model) begin(s api.Stmt) {
	loop := task{what: "test", s: s}
	switch s.Op {
	case api.StAssign:
		name := m.cellOf(m.elab(s.V, 0))
		m.put(name, m.eval(s.E[0], m.kinds[name]))
	case api.StIf:
		for _, arm := range s.Arms {
			if arm.E == nil || m.eval(arm.E[0], api.KBool).Sign() != 0 {
				m.lay(arm.Body)
				return
			}
		}
	case api.StCase:
		m.choose(s)
	case api.StFor:
		kind := m.kinds[s.V.Name]
		from := m.eval(s.E[0], kind)
		loop.to, loop.by = m.eval(s.E[1], kind), big.NewInt(1)
		if len(s.E) == 3 {
			loop.by = m.eval(s.E[2], kind)
		}
		m.put(s.V.Name, from)
		m.pile = append(m.pile, loop)
	case api.StWhile:
		m.pile = append(m.pile, loop)
	case api.StRepeat:
		m.pile = append(m.pile, loop)
		m.lay(s.Body)
	case api.StExit:
		for m.take().what == "begin" {
		}
	case api.StReturn:
		m.pile = nil
	case api.StCall:
		m.call(s.V.Name, s.Args)
	}
}

// choose goes through a CASE's labels, arm by arm.
func (m *model) choose(s api.Stmt) {
	e := m.elab(s.E[0], 0)
	n := m.value(e)
	for _, arm := range s.Arms {
		holds := arm.Labels == nil
		for _, pair := range arm.Labels {
			low, high := m.eval(pair[0], e.Kind), m.eval(pair[1], e.Kind)
			holds = holds || low.Cmp(n) <= 0 && n.Cmp(high) <= 0
		}
		if holds {
			m.lay(arm.Body)
			return
		}
	}
}

// test is where a loop goes on, or ends: what stays on the pile below its
// statements tells what is done behind them.
func (m *model) test(x task) {
	again := false
	switch x.s.Op {
	case api.StFor:
		far := m.cells[x.s.V.Name].Cmp(x.to)
		again = x.by.Sign() >= 0 && far <= 0 || x.by.Sign() < 0 && far >= 0
		x.what = "next"
	case api.StWhile:
		again = m.eval(x.s.E[0], api.KBool).Sign() != 0
	case api.StRepeat:
		again = m.eval(x.s.E[0], api.KBool).Sign() == 0
	}
	if again {
		m.pile = append(m.pile, x)
		m.lay(x.s.Body)
	}
}

func (m *model) call(name string, args []api.Arg) {
	t, _ := types.TypeOf(m.p, name)
	for _, a := range args {
		m.put(name+"."+a.Name, m.eval(a.E, m.kinds[name+"."+a.Name]))
	}
	numbers := func(pins []string) []int64 {
		var l []int64
		for _, pin := range pins {
			l = append(l, m.cells[name+"."+pin].Int64())
		}
		return l
	}
	inputs, outputs := types.Pins(t.Name)
	keeps := []string{"1", "2", "3"}
	out, keep := fb.Step(t.Name, numbers(inputs), [3]int64(numbers(keeps)), numbers(outputs), m.now)
	for i, pin := range append(outputs, keeps...) {
		m.put(name+"."+pin, big.NewInt(append(out, keep[:]...)[i]))
	}
}

func (m *model) elab(e api.Expr, want int) api.Expr {
	x, err := check.Elab(m.p, e, want)
	if err != nil {
		panic(err)
	}
	return x
}

func (m *model) eval(e api.Expr, want int) *big.Int { return m.value(m.elab(e, want)) }

func (m *model) cellOf(x api.Expr) string {
	switch {
	case x.Field != "":
		return x.Name + "." + x.Field
	case len(x.L) == 0:
		return x.Name
	}
	name := x.Name + "[" + m.value(x.L[0]).String() + "]"
	if m.cells[name] == nil {
		panic(halt(api.FaultIndex))
	}
	return name
}

// value tells the number of an expression that is elaborated.
func (m *model) value(x api.Expr) *big.Int {
	switch x.Op {
	case api.ExLit:
		return big.NewInt(x.N)
	case api.ExVar:
		return m.cells[m.cellOf(x)]
	}
	var l []*big.Int
	for _, o := range x.L {
		l = append(l, m.value(o))
	}
	if x.Op == api.ExCall {
		return wrapped(x.Kind, function(x, l))
	}
	if x.Op >= api.ExLt && x.Op <= api.ExNe {
		return truth(compared(x.Op, l[0].Cmp(l[1])))
	}
	return wrapped(x.Kind, operated(x, l))
}

func operated(x api.Expr, l []*big.Int) *big.Int {
	n := new(big.Int)
	switch x.Op {
	case api.ExNeg:
		return n.Neg(l[0])
	case api.ExNot:
		return n.Sub(big.NewInt(ranges[x.Kind][1]), l[0])
	case api.ExAdd:
		return n.Add(l[0], l[1])
	case api.ExSub:
		return n.Sub(l[0], l[1])
	case api.ExMul:
		return n.Mul(l[0], l[1])
	case api.ExAnd:
		return n.And(l[0], l[1])
	case api.ExXor:
		return n.Xor(l[0], l[1])
	case api.ExOr:
		return n.Or(l[0], l[1])
	}
	if l[1].Sign() == 0 {
		panic(halt(api.FaultZero))
	}
	if x.Op == api.ExMod {
		return n.Rem(l[0], l[1])
	}
	return n.Quo(l[0], l[1])
}

func compared(op, order int) bool {
	switch op {
	case api.ExLt:
		return order < 0
	case api.ExGt:
		return order > 0
	case api.ExLe:
		return order <= 0
	case api.ExGe:
		return order >= 0
	case api.ExEq:
		return order == 0
	}
	return order != 0
}

func truth(b bool) *big.Int {
	if b {
		return big.NewInt(1)
	}
	return big.NewInt(0)
}

func function(x api.Expr, l []*big.Int) *big.Int {
	lesser := func(a, b *big.Int) *big.Int {
		if a.Cmp(b) < 0 {
			return a
		}
		return b
	}
	greater := func(a, b *big.Int) *big.Int {
		if a.Cmp(b) > 0 {
			return a
		}
		return b
	}
	switch x.Name {
	case "ABS":
		return new(big.Int).Abs(l[0])
	case "MIN":
		return lesser(l[0], l[1])
	case "MAX":
		return greater(l[0], l[1])
	case "LIMIT":
		return lesser(l[2], greater(l[0], l[1]))
	case "SEL":
		if l[0].Sign() != 0 {
			return l[2]
		}
		return l[1]
	case "SHL", "SHR", "ROL", "ROR":
		return moved(x, l[0], int(l[1].Int64()))
	}
	return l[0]
}

// moved moves bits as a text of them.
func moved(x api.Expr, a *big.Int, places int) *big.Int {
	width := len(fmt.Sprintf("%b", ranges[x.Kind][1]))
	bits := fmt.Sprintf("%0*b", width, a)
	switch x.Name {
	case "SHL":
		bits = (bits + strings.Repeat("0", places))[places:]
	case "SHR":
		bits = (strings.Repeat("0", places) + bits)[:width]
	case "ROL":
		bits = bits[places%width:] + bits[:places%width]
	case "ROR":
		bits = bits[width-places%width:] + bits[:width-places%width]
	}
	n, _ := new(big.Int).SetString(bits, 2)
	return n
}

// wrapped tells n as one of the kind's range: BOOL is 1, if it isn't 0, the others
// go round by as many numbers as their range has.
func wrapped(kind int, n *big.Int) *big.Int {
	if kind == api.KBool {
		return truth(n.Sign() != 0)
	}
	low, high := big.NewInt(ranges[kind][0]), big.NewInt(ranges[kind][1])
	size := new(big.Int).Sub(high, low)
	size.Add(size, big.NewInt(1))
	far := new(big.Int).Sub(n, low)
	return far.Mod(far, size).Add(far, low)
}
