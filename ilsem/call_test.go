package ilsem_test

import (
	"math"
	"slices"
	"strings"
	"testing"

	"rung/fb"
	"rung/ilsem"
	"rung/types"
)

// P19.1, by P18.3: a block's call assigns its arguments one by one; pins that
// aren't told stay, and so does the accumulator.
func TestCalls(t *testing.T) {
	scans(t, "c : CTU; x : INT; b : BOOL;", []life{
		{"CAL c(CU := TRUE, PV := 1)|LD c.CV|ST x", nil, []int64{1, 0, 1, 1, 1, 1, 0, 0, 1, 0}, 0, 3},
		{"CAL c()|LD c.Q|ST b", []int64{1, 0, 2, 0, 1}, []int64{1, 0, 2, 1, 2, 1, 0, 0, 0, 1}, 0, 3},
		{"CAL c(R := TRUE)", []int64{1, 0, 2, 1, 9}, []int64{1, 1, 2, 0, 0, 1, 0, 0, 0, 0}, 0, 1},
		{"CAL c(PV := -32768, R := 1)", nil, []int64{0, 1, -32768, 1, 0, 0, 0, 0, 0, 0}, 0, 1},
		{"CAL c(PV := c.CV, R := c.Q)", []int64{0, 0, 2, 1, 7}, []int64{0, 1, 7, 0, 0, 0, 0, 0, 0, 0}, 0, 1},
		{"CAL c(CU := b, R := c.CU)", []int64{0, 0, 2, 1, 7, 0, 0, 0, 0, 1}, []int64{1, 1, 2, 0, 0, 1, 0, 0, 0, 1}, 0, 1},
		{"CAL c(R := c.CU, CU := b)", []int64{0, 0, 2, 1, 7, 0, 0, 0, 0, 1}, []int64{1, 0, 2, 1, 8, 1, 0, 0, 0, 1}, 0, 1},
		{"LD INT#9|CAL c(CU := TRUE)|ST x", nil, []int64{1, 0, 0, 1, 1, 1, 0, 0, 9, 0}, 0, 3},
	})
	for _, x := range []struct {
		op string
		b  int64
		is bool
	}{{"CAL", 0, true}, {"CAL", 1, true}, {"CALC", 0, false}, {"CALC", 1, true}, {"CALCN", 0, true}, {"CALCN", 1, false}} {
		want := []int64{0, 0, 3, 0, 0, 0, 0, 0, 0, 1 - x.b}
		if x.is {
			want = []int64{1, 0, 3, 0, 1, 1, 0, 0, 0, 1 - x.b}
		}
		scans(t, "c : CTU; x : INT; b : BOOL;", []life{{"LD b|" + x.op + " c(CU := TRUE)|STN b", []int64{0, 0, 3, 0, 0, 0, 0, 0, 0, x.b}, want, 0, 3}})
	}
	scans(t, "c : CTU; a : ARRAY[1..2] OF INT; z : INT;", []life{
		{"CAL c(PV := a[2], CU := TRUE)", []int64{0, 0, 0, 0, 0, 0, 0, 0, 0, 5}, []int64{1, 0, 5, 0, 1, 1, 0, 0, 0, 5, 0}, 0, 1},
		{"CAL c(CU := TRUE, PV := a[3], R := TRUE)|LD 1", []int64{0, 0, 2, 1, 7}, []int64{1, 0, 2, 1, 7, 0, 0, 0, 0, 0, 0}, 2, 1},
		{"CAL c(CU := TRUE, PV := a[1 / z], R := TRUE)|LD 1", []int64{0, 0, 2, 1, 7}, []int64{1, 0, 2, 1, 7, 0, 0, 0, 0, 0, 0}, 1, 1},
		{"LD z|GT 0|CALC c(PV := a[3])|CALCN c(PV := a[1])|LD c.PV|ST z", []int64{0, 0, 2, 1, 7, 0, 0, 0, 8}, []int64{0, 0, 8, 0, 7, 0, 0, 0, 8, 0, 8}, 0, 6},
	})
	scans(t, "x : INT; s : SR; r : RS;", []life{{"CAL s(S1 := TRUE)|CAL r(R1 := s.Q1, S := TRUE)", nil, []int64{0, 1, 0, 1, 0, 0, 0, 1, 1, 0, 0, 0, 0}, 0, 2}})
}

// P19.1: each block's step is fb.Step's, over its pins and keeps, and the clock.
func TestBlocks(t *testing.T) {
	some := []int64{0, 1, 2, -1, 9, 32767, -32768, math.MaxInt32, math.MinInt32, 1 << 40, 10, 1}
	for _, block := range []string{"TON", "TOF", "TP", "CTU", "CTD", "CTUD", "R_TRIG", "F_TRIG", "SR", "RS"} {
		inputs, outputs := types.Pins(block)
		var args []string
		for _, name := range inputs {
			args = append(args, name+" := o."+name)
		}
		slices.Reverse(args)
		p := program(t, "before : INT; b : "+block+"; behind : INT; o : "+block+";", "CAL b("+strings.Join(args, ", ")+")")
		size := len(inputs) + len(outputs) + 3
		cells := make([]int64, 2*size+2)
		for n := range 300 {
			for i := range cells {
				cells[i] = some[(7*n+3*i+n/(i+1))%len(some)]
			}
			now := some[n%len(some)] + int64(n)
			given, _, _ := ilsem.Scan(p, cells, now, 0) // wrapped, and no more
			pins, keeps := given[size+2:], given[size-2:size+1]
			out, keep := fb.Step(block, pins[:len(inputs)], [3]int64(keeps), given[1+len(inputs):][:len(outputs)], now)
			want := slices.Concat(given[:1], pins[:len(inputs)], out, keep[:], given[size+1:])
			got, fault, steps := ilsem.Scan(p, cells, now, 9)
			if !slices.Equal(got, want) || fault != 0 || steps != 1 {
				t.Fatalf("P19.1: %s at %d: %v: %v, %d, %d; want %v", block, now, given, got, fault, steps, want)
			}
		}
	}
}

// P19.1: a timer, scan by scan, over the clock's wrap-round.
func TestTimer(t *testing.T) {
	p := program(t, "t1 : TON; q : BOOL;", "CAL t1(IN := TRUE, PT := T#10ms)|LD t1.Q|ST q")
	for _, begin := range []int64{5, 0, math.MaxInt32 - 4, math.MinInt32, 1<<32 - 3, 1 << 40, math.MinInt64, math.MaxInt64 - 20} {
		var cells []int64
		for _, x := range [][3]int64{{0, 0, 0}, {9, 0, 9}, {10, 1, 10}, {11, 1, 10}} {
			cells, _, _ = ilsem.Scan(p, cells, begin+x[0], 9)
			if cells[7] != x[1] || cells[3] != x[2] {
				t.Errorf("P19.1: from %d on, %d: %v", begin, x[0], cells)
			}
		}
	}
}
