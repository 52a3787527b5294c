package fb

import (
	"math"
	"slices"
	"sync"
	"testing"

	"rung/types"
)

// blocks: all of them.
var blocks = []string{"R_TRIG", "F_TRIG", "SR", "RS", "CTU", "CTD", "CTUD", "TON", "TOF", "TP"}

const (
	least    = math.MinInt32
	greatest = math.MaxInt32
)

type keeps = [3]int64

// moment: of a block's life: the clock, inputs; outputs, and what is kept then.
type moment struct {
	now  int64
	in   []int64
	out  []int64
	keep keeps
}

// lives: of each block, from its beginning on.
var lives = []struct {
	block string
	life  []moment
}{
	{"R_TRIG", []moment{
		{0, []int64{0}, []int64{0}, keeps{0}},
		{1, []int64{1}, []int64{1}, keeps{1}},
		{2, []int64{1}, []int64{0}, keeps{1}},
		{3, []int64{0}, []int64{0}, keeps{0}},
		{3, []int64{-1}, []int64{1}, keeps{1}},
	}},
	{"F_TRIG", []moment{
		{0, []int64{0}, []int64{0}, keeps{0}},
		{1, []int64{1}, []int64{0}, keeps{1}},
		{2, []int64{0}, []int64{1}, keeps{0}},
		{3, []int64{0}, []int64{0}, keeps{0}},
		{4, []int64{9}, []int64{0}, keeps{1}},
		{4, []int64{0}, []int64{1}, keeps{0}},
	}},
	{"SR", []moment{
		{0, []int64{0, 0}, []int64{0}, keeps{}},
		{0, []int64{0, 1}, []int64{0}, keeps{}},
		{0, []int64{1, 0}, []int64{1}, keeps{}},
		{0, []int64{0, 0}, []int64{1}, keeps{}},
		{0, []int64{0, 1}, []int64{0}, keeps{}},
		{0, []int64{1, 1}, []int64{1}, keeps{}},
		{0, []int64{1, 1}, []int64{1}, keeps{}},
	}},
	{"RS", []moment{
		{0, []int64{0, 0}, []int64{0}, keeps{}},
		{0, []int64{1, 1}, []int64{0}, keeps{}},
		{0, []int64{1, 0}, []int64{1}, keeps{}},
		{0, []int64{0, 0}, []int64{1}, keeps{}},
		{0, []int64{1, 1}, []int64{0}, keeps{}},
		{0, []int64{0, 0}, []int64{0}, keeps{}},
		{0, []int64{0, 1}, []int64{0}, keeps{}},
	}},
	{"CTU", []moment{
		{0, []int64{0, 0, 2}, []int64{0, 0}, keeps{0}},
		{0, []int64{1, 0, 2}, []int64{0, 1}, keeps{1}},
		{0, []int64{1, 0, 2}, []int64{0, 1}, keeps{1}}, // no edge
		{0, []int64{0, 0, 2}, []int64{0, 1}, keeps{0}},
		{0, []int64{1, 0, 2}, []int64{1, 2}, keeps{1}},
		{0, []int64{0, 0, 3}, []int64{0, 2}, keeps{0}},
		{0, []int64{1, 1, 3}, []int64{0, 0}, keeps{1}}, // R goes ahead, and CU is kept
		{0, []int64{1, 0, 3}, []int64{0, 0}, keeps{1}}, // so that this is no edge
		{0, []int64{0, 0, -1}, []int64{1, 0}, keeps{0}},
	}},
	{"CTD", []moment{
		{0, []int64{0, 0, 2}, []int64{1, 0}, keeps{0}},
		{0, []int64{1, 1, 2}, []int64{0, 2}, keeps{1}}, // LD goes ahead
		{0, []int64{1, 0, 9}, []int64{0, 2}, keeps{1}},
		{0, []int64{0, 0, 9}, []int64{0, 2}, keeps{0}},
		{0, []int64{1, 0, 9}, []int64{0, 1}, keeps{1}},
		{0, []int64{0, 0, 9}, []int64{0, 1}, keeps{0}},
		{0, []int64{1, 0, 9}, []int64{1, 0}, keeps{1}},
		{0, []int64{0, 0, 9}, []int64{1, 0}, keeps{0}},
		{0, []int64{1, 0, 9}, []int64{1, -1}, keeps{1}},
		{0, []int64{0, 1, -5}, []int64{1, -5}, keeps{0}},
	}},
	{"CTUD", []moment{
		{0, []int64{0, 0, 0, 0, 2}, []int64{0, 1, 0}, keeps{0, 0}},
		{0, []int64{1, 0, 0, 0, 2}, []int64{0, 0, 1}, keeps{1, 0}},
		{0, []int64{1, 0, 0, 0, 2}, []int64{0, 0, 1}, keeps{1, 0}},
		{0, []int64{0, 0, 0, 0, 2}, []int64{0, 0, 1}, keeps{0, 0}},
		{0, []int64{1, 1, 0, 0, 2}, []int64{0, 0, 1}, keeps{1, 1}}, // both: neither
		{0, []int64{0, 1, 0, 0, 2}, []int64{0, 0, 1}, keeps{0, 1}},
		{0, []int64{1, 1, 0, 0, 2}, []int64{1, 0, 2}, keeps{1, 1}}, // CD is no edge
		{0, []int64{1, 0, 0, 0, 2}, []int64{1, 0, 2}, keeps{1, 0}},
		{0, []int64{1, 1, 0, 0, 2}, []int64{0, 0, 1}, keeps{1, 1}}, // CU is no edge
		{0, []int64{0, 0, 0, 1, 7}, []int64{1, 0, 7}, keeps{0, 0}},
		{0, []int64{1, 0, 0, 1, 4}, []int64{1, 0, 4}, keeps{1, 0}}, // LD goes ahead of CU
		{0, []int64{0, 0, 1, 1, 7}, []int64{0, 1, 0}, keeps{0, 0}}, // R of all
		{0, []int64{0, 1, 0, 0, -1}, []int64{1, 1, -1}, keeps{0, 1}},
		{0, []int64{1, 1, 1, 0, -1}, []int64{1, 1, 0}, keeps{1, 1}},
	}},
	{"TON", []moment{
		{5, []int64{1, 10}, []int64{0, 0}, keeps{1, 5, 0}}, // the chapter's example
		{14, []int64{1, 10}, []int64{0, 9}, keeps{1, 5, 0}},
		{15, []int64{1, 10}, []int64{1, 10}, keeps{1, 5, 1}},
		{99, []int64{1, 20}, []int64{1, 20}, keeps{1, 5, 1}}, // it holds, whatever PT is now
		{99, []int64{1, -20}, []int64{1, 0}, keeps{1, 5, 1}},
		{100, []int64{0, 10}, []int64{0, 0}, keeps{0, 5, 0}},
		{101, []int64{1, 10}, []int64{0, 0}, keeps{1, 101, 0}},
		{108, []int64{1, 10}, []int64{0, 7}, keeps{1, 101, 0}},
		{109, []int64{0, 10}, []int64{0, 0}, keeps{0, 101, 0}}, // given up
		{110, []int64{1, 0}, []int64{1, 0}, keeps{1, 110, 1}},
		{111, []int64{0, -5}, []int64{0, 0}, keeps{0, 110, 0}},
		{112, []int64{1, -5}, []int64{1, 0}, keeps{1, 112, 1}},
		{113, []int64{1, 50}, []int64{1, 50}, keeps{1, 112, 1}},
	}},
	{"TOF", []moment{
		{0, []int64{0, 10}, []int64{0, 0}, keeps{0, 0, 0}},
		{1, []int64{1, 10}, []int64{1, 0}, keeps{1, 0, 0}},
		{5, []int64{0, 10}, []int64{1, 0}, keeps{0, 5, 1}},
		{14, []int64{0, 10}, []int64{1, 9}, keeps{0, 5, 1}},
		{15, []int64{0, 10}, []int64{0, 10}, keeps{0, 5, 0}},
		{16, []int64{0, 20}, []int64{0, 10}, keeps{0, 5, 0}}, // ET as it was
		{17, []int64{1, 10}, []int64{1, 0}, keeps{1, 5, 0}},
		{20, []int64{0, 10}, []int64{1, 0}, keeps{0, 20, 1}},
		{25, []int64{0, 10}, []int64{1, 5}, keeps{0, 20, 1}},
		{26, []int64{1, 10}, []int64{1, 0}, keeps{1, 20, 0}}, // taken back
		{90, []int64{0, 0}, []int64{0, 0}, keeps{0, 90, 0}},
		{91, []int64{1, -1}, []int64{1, 0}, keeps{1, 90, 0}},
		{92, []int64{0, -1}, []int64{0, 0}, keeps{0, 92, 0}},
	}},
	{"TP", []moment{
		{0, []int64{0, 10}, []int64{0, 0}, keeps{0, 0, 0}},
		{3, []int64{1, 10}, []int64{1, 0}, keeps{1, 3, 1}},
		{5, []int64{0, 10}, []int64{1, 2}, keeps{0, 3, 1}},
		{6, []int64{1, 10}, []int64{1, 3}, keeps{1, 3, 1}}, // an edge while it runs is none
		{12, []int64{1, 10}, []int64{1, 9}, keeps{1, 3, 1}},
		{13, []int64{1, 10}, []int64{0, 10}, keeps{1, 3, 2}},
		{14, []int64{1, 99}, []int64{0, 10}, keeps{1, 3, 2}}, // ET as it was
		{15, []int64{0, 10}, []int64{0, 0}, keeps{0, 3, 0}},
		{16, []int64{1, 10}, []int64{1, 0}, keeps{1, 16, 1}},
		{17, []int64{0, 10}, []int64{1, 1}, keeps{0, 16, 1}},
		{30, []int64{0, 10}, []int64{0, 0}, keeps{0, 16, 0}}, // both at once
		{31, []int64{1, 0}, []int64{0, 0}, keeps{1, 31, 2}},
		{32, []int64{1, 10}, []int64{0, 0}, keeps{1, 31, 2}},
		{33, []int64{0, 10}, []int64{0, 0}, keeps{0, 31, 0}},
		{34, []int64{1, -7}, []int64{0, 0}, keeps{1, 34, 2}},
	}},
}

// P17.1: the lives of all blocks.
func TestLives(t *testing.T) {
	for _, l := range lives {
		var out []int64
		var keep keeps
		for i, m := range l.life {
			out, keep = Step(l.block, m.in, keep, out, m.now)
			if !slices.Equal(out, m.out) || keep != m.keep {
				t.Fatalf("P17.1: %s, %d: %v at %d: %v, %v; want %v, %v", l.block, i, m.in, m.now, out, keep, m.out, m.keep)
			}
		}
	}
}

// P17.1: single steps: the ends of ranges, numbers that are wrapped, pins that
// are missing or too many, what is kept of a block that doesn't name it.
func TestSteps(t *testing.T) {
	for _, x := range []struct {
		block    string
		in       []int64
		keep     keeps
		out      []int64
		now      int64
		want     []int64
		wantKeep keeps
	}{
		{"R_TRIG", []int64{1}, keeps{0, 7, -8}, []int64{0}, 5, []int64{1}, keeps{1, 7, -8}},
		{"R_TRIG", []int64{math.MinInt64}, keeps{1 << 32, 1<<32 + 7, 1 << 31}, nil, 0, []int64{1}, keeps{1, 7, least}},
		{"R_TRIG", []int64{1 << 40}, keeps{-1}, nil, 0, []int64{0}, keeps{1}},
		{"R_TRIG", []int64{0, 1, 1}, keeps{0}, []int64{1, 1, 1}, 0, []int64{0}, keeps{0}},
		{"R_TRIG", nil, keeps{5}, nil, 0, []int64{0}, keeps{0}},
		{"F_TRIG", nil, keeps{5, 6, 7}, nil, 0, []int64{1}, keeps{0, 6, 7}},
		{"F_TRIG", []int64{0}, keeps{1 << 32, -1, 1 << 32}, nil, 0, []int64{0}, keeps{0, -1, 0}},
		{"SR", nil, keeps{4, 1 << 32, -3}, []int64{-6}, 0, []int64{1}, keeps{4, 0, -3}},
		{"SR", []int64{0, 1 << 32}, keeps{}, []int64{1}, 0, []int64{0}, keeps{}},
		{"SR", []int64{1 << 33, 1}, keeps{}, nil, 0, []int64{1}, keeps{}},
		{"RS", nil, keeps{4, 5, -1 << 31}, []int64{1 << 32}, 0, []int64{1}, keeps{4, 5, least}},
		{"RS", []int64{1, 1 << 32}, keeps{}, []int64{1}, 0, []int64{0}, keeps{}},
		{"RS", []int64{1<<63 - 1}, keeps{}, nil, 0, []int64{1}, keeps{}},
		{"CTU", []int64{1, 0, 32767}, keeps{0, 8, 9}, []int64{0, 32766}, 0, []int64{1, 32767}, keeps{1, 8, 9}},
		{"CTU", []int64{1, 0, 32767}, keeps{}, []int64{0, 32767}, 0, []int64{1, 32767}, keeps{1}},
		{"CTU", []int64{1, 0, 32768}, keeps{}, []int64{0, 32768}, 0, []int64{1, -32767}, keeps{1}},
		{"CTU", []int64{0, 0, 1<<16 + 3}, keeps{}, []int64{1, 2}, 0, []int64{0, 2}, keeps{}},
		{"CTU", []int64{1}, keeps{}, []int64{0, 65535}, 0, []int64{1, 0}, keeps{1}},
		{"CTU", []int64{5, 5, 1}, keeps{}, []int64{1, 7}, 0, []int64{0, 0}, keeps{1}},
		{"CTD", []int64{1, 0, 0}, keeps{0, 8, 9}, []int64{0, -32767}, 0, []int64{1, -32768}, keeps{1, 8, 9}},
		{"CTD", []int64{1, 0, 0}, keeps{}, []int64{0, -32768}, 0, []int64{1, -32768}, keeps{1}},
		{"CTD", []int64{1, 0, 0}, keeps{}, []int64{0, 32768}, 0, []int64{1, -32768}, keeps{1}},
		{"CTD", []int64{1, 2, 40000}, keeps{}, nil, 0, []int64{1, -25536}, keeps{1}},
		{"CTD", nil, keeps{1}, nil, 0, []int64{1, 0}, keeps{}},
		{"CTUD", []int64{1, 0, 0, 0, 32767}, keeps{0, 0, 6}, []int64{0, 0, 32767}, 0, []int64{1, 0, 32767}, keeps{1, 0, 6}},
		{"CTUD", []int64{0, 1, 0, 0, 32767}, keeps{1, 0, 6}, []int64{0, 0, -32768}, 0, []int64{0, 1, -32768}, keeps{0, 1, 6}},
		{"CTUD", []int64{1, 0, 0, 0, 32767}, keeps{0, 2}, []int64{0, 0, 32766}, 0, []int64{1, 0, 32767}, keeps{1, 0}},
		{"CTUD", []int64{0, 1}, keeps{2, 0}, []int64{0, 0, -32767}, 0, []int64{0, 1, -32768}, keeps{0, 1}},
		{"CTUD", []int64{0, 0, 0, 7, 1 << 15}, keeps{}, nil, 0, []int64{1, 1, -32768}, keeps{}},
		{"CTUD", []int64{9, 9, 9, 9, 9, 9}, keeps{9, 9, 9}, []int64{9, 9, 9, 9}, 9, []int64{0, 1, 0}, keeps{1, 1, 9}},
		{"CTUD", []int64{7, -7}, keeps{}, []int64{0, 0, 5}, 0, []int64{1, 0, 5}, keeps{1, 1}},
		{"TON", []int64{1, greatest}, keeps{1, 0}, nil, greatest, []int64{1, greatest}, keeps{1, 0, 1}},
		{"TON", []int64{1, greatest}, keeps{1, 0}, nil, greatest - 1, []int64{0, greatest - 1}, keeps{1, 0, 0}},
		{"TON", []int64{1, greatest}, keeps{1, 0}, nil, 1 << 31, []int64{0, 0}, keeps{1, 0, 0}}, // below 0
		{"TON", []int64{1, 9}, keeps{1, 50}, nil, 49, []int64{0, 0}, keeps{1, 50, 0}},
		{"TON", []int64{1, 0}, keeps{1, 50}, nil, 49, []int64{1, 0}, keeps{1, 50, 1}},
		{"TON", []int64{1, 1 << 31}, keeps{1, 50}, nil, 50, []int64{1, 0}, keeps{1, 50, 1}}, // a PT below 0
		{"TON", []int64{1, 1<<32 + 10}, keeps{}, nil, 1<<32 + 7, []int64{0, 0}, keeps{1, 7, 0}},
		{"TON", []int64{1, 10}, keeps{1, 1<<32 + 7, 5}, nil, 9, []int64{0, 2}, keeps{1, 7, 0}},
		{"TON", []int64{1, 10}, keeps{3, 0, -1}, []int64{1, 8}, 12, []int64{1, 10}, keeps{1, 0, 1}},
		{"TON", []int64{1, 10}, keeps{3, 0, 1<<32 + 1}, nil, 1, []int64{1, 10}, keeps{1, 0, 1}},
		{"TON", []int64{1, 10}, keeps{0, 0, 1}, []int64{1, 10}, 1, []int64{0, 0}, keeps{1, 1, 0}}, // an edge begins anew
		{"TON", nil, keeps{1, 3, 9}, []int64{1, 8}, 2, []int64{0, 0}, keeps{0, 3, 0}},
		{"TON", []int64{1}, keeps{}, nil, -3, []int64{1, 0}, keeps{1, -3, 1}},
		{"TOF", []int64{0, 10}, keeps{0, 0, 2}, nil, 9, []int64{1, 9}, keeps{0, 0, 2}},
		{"TOF", []int64{0, 10}, keeps{0, 0, -1}, nil, 10, []int64{0, 10}, keeps{0, 0, 0}},
		{"TOF", []int64{0, 10}, keeps{0, 0, 1 << 32}, []int64{1, 1<<32 + 4}, 5, []int64{0, 4}, keeps{0, 0, 0}},
		{"TOF", []int64{0, 10}, keeps{0, 0, 0}, []int64{1, -4}, 5, []int64{0, -4}, keeps{0, 0, 0}},
		{"TOF", []int64{0, 10}, keeps{0, 0, 0}, []int64{1, 1 << 31}, 5, []int64{0, least}, keeps{0, 0, 0}},
		{"TOF", []int64{0, 10}, keeps{7, 1, 0}, nil, 1<<31 + 1, []int64{1, 0}, keeps{0, least + 1, 1}},
		{"TOF", []int64{8, 10}, keeps{7, 1, 1}, []int64{0, 5}, 3, []int64{1, 0}, keeps{1, 1, 0}},
		{"TOF", []int64{0, 10}, keeps{0, 50, 1}, []int64{0, 5}, 40, []int64{1, 0}, keeps{0, 50, 1}},
		{"TOF", nil, keeps{1, 2, 3}, []int64{1, 4}, 5, []int64{0, 0}, keeps{0, 5, 0}},
		{"TP", []int64{1, 10}, keeps{0, 0, 2}, nil, 9, []int64{1, 0}, keeps{1, 9, 1}},
		{"TP", []int64{1, 10}, keeps{0, 0, -1}, nil, 9, []int64{1, 0}, keeps{1, 9, 1}},
		{"TP", []int64{1, 10}, keeps{4, 0, 3}, []int64{1, 6}, 9, []int64{0, 6}, keeps{1, 0, 3}},
		{"TP", []int64{1, 10}, keeps{4, 0, 0}, []int64{1, 1<<32 - 6}, 9, []int64{0, -6}, keeps{1, 0, 0}},
		{"TP", []int64{0, 10}, keeps{4, 0, 3}, []int64{1, 6}, 9, []int64{0, 0}, keeps{0, 0, 0}},
		{"TP", []int64{0, 10}, keeps{0, 0, 1<<32 + 1}, nil, 9, []int64{1, 9}, keeps{0, 0, 1}},
		{"TP", []int64{1, 10}, keeps{0, 50, 1}, nil, 40, []int64{1, 0}, keeps{1, 50, 1}},
		{"TP", []int64{1, greatest}, keeps{1, least, 1}, nil, -1, []int64{0, greatest}, keeps{1, least, 2}},
		{"TP", []int64{1, greatest}, keeps{1, least, 1}, nil, -2, []int64{1, greatest - 1}, keeps{1, least, 1}},
		{"TP", nil, keeps{}, []int64{1, 4}, 5, []int64{0, 0}, keeps{}},
	} {
		out, keep := Step(x.block, x.in, x.keep, x.out, x.now)
		if !slices.Equal(out, x.want) || keep != x.wantKeep {
			t.Errorf("P17.1: %s %v, %v, %v at %d: %v, %v; want %v, %v", x.block, x.in, x.keep, x.out, x.now, out, keep, x.want, x.wantKeep)
		}
	}
}

// P17.1: of no block there is nothing.
func TestNoBlock(t *testing.T) {
	for _, block := range []string{"", "ton", "Ton", "TON ", " TON", "TONN", "T", "R_TRIG\x00", "RTRIG", "R", "S1", "CTDU", "INT", "BOOL", "\xff"} {
		out, keep := Step(block, []int64{1, 2, 3}, keeps{4, 5, 6}, []int64{7, 8, 9}, 10)
		if len(out) != 0 || keep != (keeps{}) {
			t.Errorf("P17.1: %q: %v, %v", block, out, keep)
		}
	}
}

// P17.1: the blocks are those of types, and tell as many outputs as these have,
// whatever is handed in.
func TestPins(t *testing.T) {
	for _, block := range blocks {
		if !types.Block(block) {
			t.Fatalf("%s is no block", block)
		}
		_, pins := types.Pins(block)
		for ins := range 8 {
			for outs := range 8 {
				out, _ := Step(block, make([]int64, ins), keeps{}, make([]int64, outs), 0)
				if len(out) != len(pins) {
					t.Errorf("P17.1: %s with %d, %d: %v", block, ins, outs, out)
				}
			}
		}
	}
}

// P17.1: missing pins are 0; a nil list and an empty one are the same; those
// that are too many say nothing.
func TestMissing(t *testing.T) {
	whole := []int64{1, 1, 1, 1, 1}
	for _, block := range blocks {
		for ins := range 6 {
			for outs := range 4 {
				in, out := make([]int64, 9), make([]int64, 9)
				copy(in, whole[:ins])
				copy(out, whole[:outs])
				want, wantKeep := Step(block, in, keeps{0, 1, 1}, out, 5)
				inputs, outputs := types.Pins(block)
				for i := len(inputs); i < len(in); i++ {
					in[i] = 77
				}
				for i := len(outputs); i < len(out); i++ {
					out[i] = 77
				}
				same(t, block, want, wantKeep)(Step(block, in, keeps{0, 1, 1}, out, 5))
				same(t, block, want, wantKeep)(Step(block, whole[:ins], keeps{0, 1, 1}, whole[:outs], 5))
			}
		}
		want, wantKeep := Step(block, nil, keeps{1, 2, 3}, nil, 5)
		same(t, block, want, wantKeep)(Step(block, []int64{}, keeps{1, 2, 3}, []int64{}, 5))
	}
}

func same(t *testing.T, block string, want []int64, wantKeep keeps) func([]int64, keeps) {
	return func(out []int64, keep keeps) {
		t.Helper()
		if !slices.Equal(out, want) || keep != wantKeep {
			t.Errorf("P17.1: %s: %v, %v; want %v, %v", block, out, keep, want, wantKeep)
		}
	}
}

// What is handed in is neither changed nor kept, spare room included, and what
// is answered is new.
func TestMemory(t *testing.T) {
	for _, block := range blocks {
		in := []int64{1, 2, 3, 4, 5, 1 << 40, 6, 7}
		out := []int64{1, 1 << 40, 3, 4, 5, 6, 7}
		wasIn, wasOut := slices.Clone(in), slices.Clone(out)
		for n := range 7 {
			a, keep := Step(block, in[:n], keeps{0, 1, 1}, out[:n], 3)
			if !slices.Equal(in, wasIn) || !slices.Equal(out, wasOut) {
				t.Fatalf("%s: what was handed in is %v, %v", block, in, out)
			}
			was := slices.Clone(a)
			b, _ := Step(block, in[:n], keeps{0, 1, 1}, out[:n], 3)
			for i := range b[:cap(b)] {
				b[:cap(b)][i] = 99
			}
			for i := range in {
				in[i], out[min(i, len(out)-1)] = 55, 55
			}
			if !slices.Equal(a, was) {
				t.Fatalf("%s: %v was told, and is %v", block, was, a)
			}
			copy(in, wasIn)
			copy(out, wasOut)
			same(t, block, was, keep)(Step(block, in[:n], keeps{0, 1, 1}, out[:n], 3))
		}
	}
}

// The same again: a step hangs on what it is handed alone, also with others at
// one time.
func TestAtOneTime(t *testing.T) {
	var g sync.WaitGroup
	for range 4 {
		for _, l := range lives {
			g.Go(func() {
				for range 50 {
					var out []int64
					var keep keeps
					for _, m := range l.life {
						out, keep = Step(l.block, m.in, keep, out, m.now)
						if !slices.Equal(out, m.out) || keep != m.keep {
							t.Errorf("%s: %v, %v; want %v, %v", l.block, out, keep, m.out, m.keep)
							return
						}
					}
				}
			})
		}
	}
	g.Wait()
}

// clocks: where lives begin: at 0, about the wrap-round, and past what a DINT is.
var clocks = []int64{0, 1, -1, 1000, greatest, greatest - 12, greatest - 40, least, least + 1, 1 << 31, 1<<31 - 20, 1 << 32, 1<<32 - 9, 3<<31 - 15, math.MaxInt64 - 3, math.MinInt64}

// P17.2: a timer's life is the same, whatever the clock's number at its
// beginning: only keep[1] goes with it.
func TestAnyClock(t *testing.T) {
	for _, l := range lives {
		if !slices.Contains([]string{"TON", "TOF", "TP"}, l.block) {
			continue
		}
		for _, clock := range clocks {
			var out []int64
			// A timer that has counted nothing yet may keep any time.
			keep := keeps{0, clock, 0}
			for i, m := range l.life {
				out, keep = Step(l.block, m.in, keep, out, clock+m.now)
				if !slices.Equal(out, m.out) || keep[0] != m.keep[0] || keep[2] != m.keep[2] {
					t.Fatalf("P17.2: %s from %d on, %d: %v, %v; want %v, %v", l.block, clock, i, out, keep, m.out, m.keep)
				}
			}
		}
	}
}

// P17.2: a timer's time is its own: of ET and Q, by how long ago its edge was.
func TestOwnTime(t *testing.T) {
	for _, clock := range clocks {
		for _, preset := range []int64{0, 1, 7, 1000, 1 << 30, greatest} {
			for _, passed := range []int64{0, 1, 6, 7, 8, 999, 1000, 1001, 1<<30 - 1, 1 << 30, greatest - 1, greatest} {
				time := min(passed, preset)
				over := int64(0)
				if passed >= preset {
					over = 1
				}
				ownTime(t, "TON", clock, preset, passed, []int64{0, 1}, []int64{over, time})
				ownTime(t, "TOF", clock, preset, passed, []int64{1, 0}, []int64{1 - over, time})
				ownTime(t, "TP", clock, preset, passed, []int64{0, 1}, []int64{1 - over, time})
			}
		}
	}
}

// ownTime lets a timer's IN go from edge[0] to edge[1] at that clock, and asks
// once more when some time has passed, and once again.
func ownTime(t *testing.T, block string, clock, preset, passed int64, edge, want []int64) {
	t.Helper()
	out, keep := Step(block, []int64{edge[0], preset}, keeps{}, nil, clock-500)
	out, keep = Step(block, []int64{edge[1], preset}, keep, out, clock)
	for range 2 {
		out, keep = Step(block, []int64{edge[1], preset}, keep, out, clock+passed)
		if !slices.Equal(out, want) {
			t.Fatalf("P17.2: %s, PT %d, from %d on, %d later: %v; want %v", block, preset, clock, passed, out, want)
		}
	}
}

// P17.2: behind its time a timer stays as it is, wherever the clock comes round.
func TestOver(t *testing.T) {
	for _, x := range []struct {
		block string
		edge  []int64
		want  []int64
	}{
		{"TON", []int64{0, 1}, []int64{1, 10}},
		{"TOF", []int64{1, 0}, []int64{0, 10}},
		{"TP", []int64{0, 1}, []int64{0, 10}},
	} {
		out, keep := Step(x.block, []int64{x.edge[0], 10}, keeps{}, nil, 0)
		out, keep = Step(x.block, []int64{x.edge[1], 10}, keep, out, 1)
		for _, now := range []int64{11, 12, greatest, 1 << 31, 3 << 30, 1 << 32, 1<<32 + 1, 1<<32 + 5, 1<<33 + 2} {
			out, keep = Step(x.block, []int64{x.edge[1], 10}, keep, out, now)
			if !slices.Equal(out, x.want) {
				t.Errorf("P17.2: %s at %d: %v, %v; want %v", x.block, now, out, keep, x.want)
			}
		}
	}
}
