package types

import "rung/api"

// pin: of a block: its name, its kind.
type pin struct {
	name string
	kind int
}

// Block tells whether there is a block of that name.
func Block(name string) bool {
	in, _ := pinsOf(name)
	return len(in) > 0
}

// Pins tells the names of a block's inputs, and of its outputs, in order; none
// of no block.
func Pins(name string) ([]string, []string) {
	in, out := pinsOf(name)
	return namesOf(in), namesOf(out)
}

// Pin tells the kind of a block's pin; 0, if there is none.
func Pin(block, pin string) int {
	in, out := pinsOf(block)
	for _, x := range append(in, out...) {
		if x.name == pin {
			return x.kind
		}
	}
	return 0
}

// pinsOf tells a block's inputs, and its outputs, in order; none of no block.
func pinsOf(block string) ([]pin, []pin) {
	const bit, count, time = api.KBool, api.KInt, api.KTime
	switch block {
	case "TON", "TOF", "TP":
		return []pin{{"IN", bit}, {"PT", time}}, []pin{{"Q", bit}, {"ET", time}}
	case "CTU":
		return []pin{{"CU", bit}, {"R", bit}, {"PV", count}}, []pin{{"Q", bit}, {"CV", count}}
	case "CTD":
		return []pin{{"CD", bit}, {"LD", bit}, {"PV", count}}, []pin{{"Q", bit}, {"CV", count}}
	case "CTUD":
		return []pin{{"CU", bit}, {"CD", bit}, {"R", bit}, {"LD", bit}, {"PV", count}},
			[]pin{{"QU", bit}, {"QD", bit}, {"CV", count}}
	case "R_TRIG", "F_TRIG":
		return []pin{{"CLK", bit}}, []pin{{"Q", bit}}
	case "SR":
		return []pin{{"S1", bit}, {"R", bit}}, []pin{{"Q1", bit}}
	case "RS":
		return []pin{{"S", bit}, {"R1", bit}}, []pin{{"Q1", bit}}
	}
	return nil, nil
}

func namesOf(pins []pin) []string {
	var names []string
	for _, x := range pins {
		names = append(names, x.name)
	}
	return names
}
