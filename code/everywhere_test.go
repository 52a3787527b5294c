package code_test

import (
	"math"
	"math/rand"
	"reflect"
	"slices"
	"sync"
	"testing"

	"rung/api"
	"rung/code"
)

// anyCode makes code of any numbers whatever.
func anyCode(r *rand.Rand) api.Code {
	number := func() int {
		switch r.Intn(4) {
		case 0:
			return int(r.Uint64())
		case 1:
			return odd[r.Intn(len(odd))]
		}
		return r.Intn(30) - 2
	}
	c := api.Code{}
	for range r.Intn(8) {
		c.Kinds = append(c.Kinds, []int{1 + r.Intn(11), number()}[r.Intn(8)/7])
	}
	for range r.Intn(12) {
		x := ins(1+r.Intn(24), number(), number(), int64(number()), []string{"", "SHL", "ROL", "TON", "R_TRIG", "\x00"}[r.Intn(6)])
		if r.Intn(10) == 0 {
			x.Op = number()
		}
		c.L = append(c.L, x)
	}
	return c
}

// TestAnything: no code makes a call panic, and what all three answer fits.
func TestAnything(t *testing.T) {
	r := rand.New(rand.NewSource(205))
	for range 20000 {
		c := anyCode(r)
		at := placeOf(t, code.Verify(c))
		l, err := code.Depths(c)
		if placeOf(t, err) != at || (at < 0) != (len(l) == len(c.L) && len(l) > 0) {
			t.Fatalf("DOC.md 1: %d, %v, %v: %s", at, l, err, brief(c))
		}
		code.Text(c)
	}
}

// TestEmpty: nil lists are as empty ones.
func TestEmpty(t *testing.T) {
	for _, kinds := range [][]int{nil, {}} {
		for _, l := range [][]api.Ins{nil, {}} {
			c := api.Code{Kinds: kinds, L: l}
			wantWrong(t, "DOC.md 2", c, 0)
			if text := code.Text(c); text != "" {
				t.Errorf("DOC.md 2: %q", text)
			}
		}
		wantRight(t, "DOC.md 2", over(kinds, end))
	}
}

// roomy copies code into lists with room behind them, filled with signs.
func roomy(c api.Code) api.Code {
	kinds := append(slices.Clone(c.Kinds), -77, -78, -79)
	l := append(slices.Clone(c.L), op(-77, 1), op(-78, 2))
	return api.Code{Kinds: kinds[:len(c.Kinds)], L: l[:len(c.L)]}
}

func TestMemory(t *testing.T) {
	r := rand.New(rand.NewSource(206))
	m := maker{r: r}
	for i := range 400 {
		c := anyCode(r)
		if i%2 == 0 {
			c = m.make()
		}
		given, want := roomy(c), roomy(c)
		code.Verify(given)
		first, _ := code.Depths(given)
		second, _ := code.Depths(given)
		code.Text(given)
		if !reflect.DeepEqual(whole(given), whole(want)) {
			t.Fatalf("DOC.md 3: what was handed in was changed: %s", brief(c))
		}
		told := slices.Clone(second)
		for k := range first {
			first[k] = math.MinInt
		}
		for k := range given.L {
			given.L[k] = api.Ins{}
		}
		if !slices.Equal(second, told) {
			t.Fatalf("DOC.md 3: two answers share memory: %s", brief(c))
		}
	}
}

// whole tells code with the room behind its lists.
func whole(c api.Code) api.Code {
	return api.Code{Kinds: c.Kinds[:cap(c.Kinds)], L: c.L[:cap(c.L)]}
}

// TestSame asks all at once for what was answered alone.
func TestSame(t *testing.T) {
	r := rand.New(rand.NewSource(207))
	m := maker{r: r}
	type answer struct {
		err    error
		depths []int
		text   string
	}
	ask := func(c api.Code) answer {
		depths, _ := code.Depths(c)
		return answer{code.Verify(c), depths, code.Text(c)}
	}
	var given []api.Code
	var want []answer
	for i := range 60 {
		c := anyCode(r)
		if i%2 == 0 {
			c = m.make()
		}
		given, want = append(given, c), append(want, ask(c))
	}
	var all sync.WaitGroup
	for g := range 8 {
		all.Go(func() {
			for i := range given {
				k := (i + 7*g) % len(given)
				if got := ask(given[k]); !reflect.DeepEqual(got, want[k]) {
					t.Errorf("DOC.md 8: another answer: %s", brief(given[k]))
				}
			}
		})
	}
	all.Wait()
}
