package vm_test

import (
	"errors"
	"math"
	"math/rand"
	"reflect"
	"slices"
	"sync"
	"testing"

	"rung/api"
	"rung/code"
	"rung/vm"
)

var odd = []int64{math.MinInt64, -1 << 32, -256, -2, -1, 0, 1, 2, 3, 1<<32 + 3, 1 << 62, math.MaxInt64}

// anyCode makes code of any numbers whatever, often of few that are likely.
func anyCode(m *maker) api.Code {
	number := func() int64 {
		if m.Intn(12) == 0 {
			return pick(m, append(slices.Clone(odd), int64(m.Uint64()))...)
		}
		return int64(m.Intn(5))
	}
	c := over(slices.Repeat([]int{api.KDint}, m.Intn(8)))
	if len(c.Kinds) > 0 && m.Intn(6) == 0 {
		c.Kinds[m.Intn(len(c.Kinds))] = int(number())
	}
	for range m.Intn(4) {
		c.L = append(c.L, push(number()))
	}
	for range 1 + m.Intn(7) {
		c.L = append(c.L, ins(1+m.Intn(api.OpPick), int(number()), int(number()), number(), pick(m, "", "SHL", "ROL", "TON", "R_TRIG", "\x00")))
	}
	return c
}

// TestAnything: New answers what code.Verify does, and what it takes is run
// over any numbers.
func TestAnything(t *testing.T) {
	m := newMaker(213)
	right := 0
	for range 15000 {
		c := anyCode(m)
		v, err := vm.New(c)
		if wrong := code.Verify(c); !reflect.DeepEqual(err, wrong) || (err == nil) != (v != nil) {
			t.Fatalf("P21.1: New: %v, %v, wanted %v: %s", v, err, wrong, brief(c))
		}
		if err != nil {
			continue
		}
		right++
		cells, most := m.cells(), int(pick(m, odd...))
		got, fault, steps := v.Scan(cells, pick(m, odd...), most)
		if len(got) != len(c.Kinds) || fault < api.FaultNone || fault > api.FaultSteps || steps < 0 || steps > max(most, 0) || steps > 1<<22 {
			t.Fatalf("P21.2: %v, fault %d, %d steps: %s", got, fault, steps, brief(c))
		}
	}
	if right < 150 {
		t.Errorf("only %d were right", right)
	}
}

// TestEmpty: nil lists are as empty ones.
func TestEmpty(t *testing.T) {
	for _, kinds := range [][]int{nil, {}} {
		for _, l := range [][]api.Ins{nil, {}} {
			if v, err := vm.New(over(kinds, l...)); v != nil || !errors.Is(err, api.ErrCode) {
				t.Errorf("DOC.md 2: %v, %v", v, err)
			}
		}
		for _, cells := range [][]int64{nil, {}} {
			want(t, "DOC.md 2", over(kinds, end), cells, 0, 0, nil, 0, 0)
		}
	}
}

// TestMemory: nothing that is handed in is changed or kept, no two answers
// share any.
func TestMemory(t *testing.T) {
	m := newMaker(214)
	for range 300 {
		c := m.make()
		kinds := append(slices.Clone(c.Kinds), -77, -78)
		l := append(slices.Clone(c.L), op(-77, 1), op(-78, 2))
		given := api.Code{Kinds: kinds[:len(c.Kinds)], L: l[:len(c.L)]}
		v := machine(t, given)
		if !slices.Equal(kinds[:len(c.Kinds)], c.Kinds) || !slices.Equal(l[:len(c.L)], c.L) || kinds[len(c.Kinds)] != -77 || l[len(c.L)].Op != -77 {
			t.Fatalf("DOC.md 3: the code was changed: %s", brief(c))
		}
		cells := m.cells()
		roomy := append(slices.Clone(cells), -99, 99, 77)
		first, fault, steps := v.Scan(roomy[:len(cells)], 3, 50)
		told := slices.Clone(first)
		for i := range given.L {
			given.L[i] = op(99, 99)
		}
		for i := range given.Kinds {
			given.Kinds[i] = api.KBool
		}
		second, f, n := v.Scan(roomy[:len(cells)], 3, 50)
		if !slices.Equal(roomy[:len(cells)], cells) || !slices.Equal(roomy[len(cells):], []int64{-99, 99, 77}) {
			t.Fatalf("DOC.md 3: the cells that were handed in were changed: %s", brief(c))
		}
		for _, l := range [][]int64{first, roomy} {
			for i := range l {
				l[i] = math.MinInt64
			}
		}
		if !slices.Equal(second, told) || f != fault || n != steps {
			t.Fatalf("DOC.md 3: something is shared, or kept: %s", brief(c))
		}
	}
}

// TestSame: a scan hangs on nothing but what it is handed: not on other scans of
// the machine, ahead of it or beside it.
func TestSame(t *testing.T) {
	m := newMaker(215)
	type answer struct {
		cells        []int64
		fault, steps int
	}
	type question struct {
		v     *vm.Vm
		cells []int64
		now   int64
		most  int
	}
	ask := func(q question) answer {
		cells, fault, steps := q.v.Scan(q.cells, q.now, q.most)
		return answer{cells, fault, steps}
	}
	var machines []*vm.Vm
	var asked []question
	var told []answer
	for range 12 {
		v := machine(t, m.make())
		machines = append(machines, v)
		for range 5 {
			q := question{v, m.cells(), int64(m.Uint64()), m.Intn(60)}
			asked, told = append(asked, q), append(told, ask(q))
		}
	}
	var all sync.WaitGroup
	for g := range 8 {
		all.Go(func() {
			order := rand.New(rand.NewSource(int64(g))).Perm(len(asked))
			for _, i := range order {
				if got := ask(asked[i]); !reflect.DeepEqual(got, told[i]) {
					t.Errorf("DOC.md 8: another answer: %v, wanted %v", got, told[i])
				}
			}
		})
	}
	all.Wait()
	for _, v := range machines {
		if v.Runs() != 5*(1+8) {
			t.Errorf("P21.1: %d runs, wanted %d", v.Runs(), 5*(1+8))
		}
	}
}

// TestOnce: a machine that New didn't make has no right code: it runs nothing.
func TestOnce(t *testing.T) {
	var v vm.Vm
	if cells, fault, steps := v.Scan([]int64{1}, 0, 9); len(cells) != 0 || fault != 0 || steps != 0 || v.Runs() != 0 {
		t.Errorf("P21.2: %v, %d, %d", cells, fault, steps)
	}
}
