package code

import (
	"rung/api"
	"rung/num"
	"rung/types"
)

// keeps is how many cells a block has beside its pins.
const keeps = 3

// checkAlone tells the first instruction that is wrong whatever way comes to
// it; 0, if the code as a whole is.
func checkAlone(c api.Code) error {
	if !isWhole(c) {
		return wrong(0)
	}
	for at, x := range c.L {
		if !isRight(c, x) {
			return wrong(at)
		}
	}
	return nil
}

// isWhole tells whether there are cells and instructions as code may have them.
func isWhole(c api.Code) bool {
	for _, kind := range c.Kinds {
		if !num.Scalar(kind) {
			return false
		}
	}
	return len(c.Kinds) <= api.MaxCells && 0 < len(c.L) && len(c.L) <= api.MaxCode
}

// isRight tells whether x is right by itself, as one of c's instructions.
func isRight(c api.Code, x api.Ins) bool {
	switch x.Op {
	case api.OpPush, api.OpNot:
		return num.Scalar(x.A)
	case api.OpLoad, api.OpStore:
		return areCells(c.Kinds, x.A, 1)
	case api.OpLoadAt, api.OpCheckAt, api.OpStoreAt:
		return isArray(c.Kinds, x)
	case api.OpNeg, api.OpAbs:
		return num.Signed(x.A)
	case api.OpApply:
		return num.Scalar(x.A) && api.ExMul <= x.B && x.B <= api.ExOr
	case api.OpConvert:
		return num.Scalar(x.A) && num.Scalar(x.B)
	case api.OpShift:
		return isBits(x.A) && isShift(x.Name)
	case api.OpJump, api.OpZero, api.OpOther:
		return 0 <= x.A && x.A < len(c.L)
	case api.OpCall:
		return isBlock(c.Kinds, x)
	case api.OpPick:
		return 0 <= x.A && x.A < api.MaxStack
	}
	return isOperator(x.Op)
}

// areCells tells whether there are cells from first on, count of them. The sum
// of both isn't asked for: first may be any number, and the sum wrap round.
func areCells(kinds []int, first, count int) bool {
	return 0 <= first && first <= len(kinds)-count
}

// isArray tells whether x is of cells that may be an array's, with an index of
// DINT each.
func isArray(kinds []int, x api.Ins) bool {
	if x.B < 1 || x.B > api.MaxArray || !areCells(kinds, x.A, x.B) {
		return false
	}
	for _, kind := range kinds[x.A : x.A+x.B] {
		if kind != kinds[x.A] {
			return false
		}
	}
	least, greatest := num.Range(api.KDint)
	return least <= x.C && x.C <= greatest-int64(x.B-1)
}

// isBlock tells whether x is of a block, and of cells that are its pins and
// what it keeps.
func isBlock(kinds []int, x api.Ins) bool {
	if !types.Block(x.Name) {
		return false
	}
	in, out := types.Pins(x.Name)
	pins := append(in, out...)
	if !areCells(kinds, x.A, len(pins)+keeps) {
		return false
	}
	cells := kinds[x.A : x.A+len(pins)+keeps]
	for i, name := range pins {
		if cells[i] != types.Pin(x.Name, name) {
			return false
		}
	}
	for _, kind := range cells[len(pins):] {
		if kind != api.KDint {
			return false
		}
	}
	return true
}

func isBits(kind int) bool {
	return kind == api.KByte || kind == api.KWord || kind == api.KDword
}

func isShift(name string) bool {
	switch name {
	case "SHL", "SHR", "ROL", "ROR":
		return true
	}
	return false
}
