package lowst

import (
	"rung/api"
	"rung/names"
)

// lowering: a program's code, as far as it is made.
type lowering struct {
	names names.Names
	cells names.Cells
	code  []api.Ins
	exits []landing // of the EXITs of the innermost loop, so far
}

// landing lets a jump that was added go on to an instruction.
type landing func(to int)

// nowhere is the landing of a jump that was left out.
func nowhere(int) {}

// add adds an instruction, unless there are too many already: then nothing is
// made of the code but a refusal.
func (l *lowering) add(x api.Ins) {
	if len(l.code) <= api.MaxCode {
		l.code = append(l.code, x)
	}
}

// here tells the number of the instruction that will be added next.
func (l *lowering) here() int { return len(l.code) }

// jump adds one whose target isn't known yet.
func (l *lowering) jump(op int) landing {
	l.add(api.Ins{Op: op})
	at := len(l.code) - 1
	return func(to int) { l.code[at].A = to }
}

// all tells the landing of several jumps to one place.
func all(jumps []landing) landing {
	return func(to int) {
		for _, land := range jumps {
			land(to)
		}
	}
}

func (l *lowering) push(kind int, n int64) { l.add(api.Ins{Op: api.OpPush, A: kind, C: n}) }

// pick adds a copy of the number that has so many others above it.
func (l *lowering) pick(others int) { l.add(api.Ins{Op: api.OpPick, A: others}) }

func (l *lowering) load(cell int) { l.add(api.Ins{Op: api.OpLoad, A: cell}) }

func (l *lowering) store(cell int) { l.add(api.Ins{Op: api.OpStore, A: cell}) }

func (l *lowering) step() { l.add(api.Ins{Op: api.OpStep}) }

func (l *lowering) dup() { l.add(api.Ins{Op: api.OpDup}) }

func (l *lowering) drop() { l.add(api.Ins{Op: api.OpDrop}) }

func (l *lowering) apply(kind, op int) { l.add(api.Ins{Op: api.OpApply, A: kind, B: op}) }

// element adds an instruction of an array's element.
func (l *lowering) element(op int, s names.Stretch) {
	l.add(api.Ins{Op: op, A: s.First, B: s.High - s.Low + 1, C: int64(s.Low)})
}
