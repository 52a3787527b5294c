package types

import "rung/api"

// pin: of a block: its name, its kind.
type pin struct {
	name string
	kind int
}

// pins: a block's inputs, or its outputs, in order; those behind the last one
// have no name. They are told as values, as blocks' steps ask for them in every
// scan: new lists would cost more than the steps do.
type pins [5]pin

// Block tells whether there is a block of that name.
func Block(name string) bool {
	in, _ := pinsOf(name)
	return in.count() > 0
}

// Pins tells the names of a block's inputs, and of its outputs, in order; none
// of no block.
func Pins(name string) ([]string, []string) {
	in, out := pinsOf(name)
	return in.names(), out.names()
}

// Pin tells the kind of a block's pin; 0, if there is none.
func Pin(block, pin string) int {
	in, out := pinsOf(block)
	if kind := in.kindOf(pin); kind != 0 {
		return kind
	}
	return out.kindOf(pin)
}

// pinsOf tells a block's inputs, and its outputs, in order; none of no block.
func pinsOf(block string) (in, out pins) {
	const bit, count, time = api.KBool, api.KInt, api.KTime
	switch block {
	case "TON", "TOF", "TP":
		return pins{{"IN", bit}, {"PT", time}}, pins{{"Q", bit}, {"ET", time}}
	case "CTU":
		return pins{{"CU", bit}, {"R", bit}, {"PV", count}}, pins{{"Q", bit}, {"CV", count}}
	case "CTD":
		return pins{{"CD", bit}, {"LD", bit}, {"PV", count}}, pins{{"Q", bit}, {"CV", count}}
	case "CTUD":
		return pins{{"CU", bit}, {"CD", bit}, {"R", bit}, {"LD", bit}, {"PV", count}},
			pins{{"QU", bit}, {"QD", bit}, {"CV", count}}
	case "R_TRIG", "F_TRIG":
		return pins{{"CLK", bit}}, pins{{"Q", bit}}
	case "SR":
		return pins{{"S1", bit}, {"R", bit}}, pins{{"Q1", bit}}
	case "RS":
		return pins{{"S", bit}, {"R1", bit}}, pins{{"Q1", bit}}
	}
	return pins{}, pins{}
}

func (p *pins) count() int {
	n := 0
	for n < len(p) && p[n].name != "" {
		n++
	}
	return n
}

func (p *pins) names() []string {
	names := make([]string, p.count())
	for i := range names {
		names[i] = p[i].name
	}
	return names
}

// kindOf tells the kind of the pin of that name; 0, if there is none.
func (p *pins) kindOf(name string) int {
	for i := range p.count() {
		if p[i].name == name {
			return p[i].kind
		}
	}
	return 0
}
