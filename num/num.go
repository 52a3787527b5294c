// Package num: the scalar kinds: their widths, their wrap-round, one into another: see doc/01-num.md.
package num

import "rung/api"

// names stands in the order of the kinds' numbers, so that a kind is its name's index.
var names = [...]string{
	api.KBool:  "BOOL",
	api.KSint:  "SINT",
	api.KInt:   "INT",
	api.KDint:  "DINT",
	api.KUsint: "USINT",
	api.KUint:  "UINT",
	api.KUdint: "UDINT",
	api.KByte:  "BYTE",
	api.KWord:  "WORD",
	api.KDword: "DWORD",
	api.KTime:  "TIME",
}

// Scalar tells whether kind is one of BOOL to TIME.
func Scalar(kind int) bool { return Width(kind) > 0 }

// Signed tells whether kind has numbers below 0.
func Signed(kind int) bool {
	switch kind {
	case api.KSint, api.KInt, api.KDint, api.KTime:
		return true
	}
	return false
}

// Width tells how many bits kind has; 0 of no scalar. Each wider group of
// kinds falls through to the next narrower one: it adds only the bits that it
// has beyond that one.
func Width(kind int) int {
	width := 0
	switch kind {
	case api.KDint, api.KUdint, api.KDword, api.KTime:
		width += 16
		fallthrough
	case api.KInt, api.KUint, api.KWord:
		width += 8
		fallthrough
	case api.KSint, api.KUsint, api.KByte:
		width += 7
		fallthrough
	case api.KBool:
		width++
	}
	return width
}

// Range tells the least and the greatest number of kind; 0, 0 of no scalar.
func Range(kind int) (int64, int64) {
	width := Width(kind)
	switch {
	case width == 0:
		return 0, 0
	case Signed(kind):
		half := int64(1) << (width - 1)
		return -half, half - 1
	}
	return 0, int64(1)<<width - 1
}

// Name tells kind's word; an empty one of no scalar.
func Name(kind int) string {
	if !Scalar(kind) {
		return ""
	}
	return names[kind]
}

// Kind tells the kind whose word name is; 0 if there is none.
func Kind(name string) int {
	for kind, word := range names {
		if word == name {
			return kind
		}
	}
	return 0
}

// Wrap brings n into kind's range; 0 of no scalar.
func Wrap(kind int, n int64) int64 {
	switch {
	case !Scalar(kind):
		return 0
	case kind == api.KBool:
		return truth(n != 0)
	}
	// Shifted up and down again, the bits above the width go; which kind of
	// shift down it is decides what comes in for them.
	above := 64 - Width(kind)
	if Signed(kind) {
		return n << above >> above
	}
	return int64(uint64(n) << above >> above)
}

// Neg tells a's opposite, wrapped.
func Neg(kind int, a int64) int64 { return Wrap(kind, -a) }

// Not turns all of a's bits; of BOOL it tells 1 of 0, else 0.
func Not(kind int, a int64) int64 {
	if kind == api.KBool {
		return truth(a == 0)
	}
	return Wrap(kind, ^a)
}

// Apply tells what the operator op makes of a and b, both wrapped ahead, and
// the fault: FaultZero of a division by 0, else FaultNone. Every operator is
// done with every scalar, by numbers alone.
func Apply(op, kind int, a, b int64) (int64, int) {
	if !Scalar(kind) {
		return 0, api.FaultNone
	}
	a, b = Wrap(kind, a), Wrap(kind, b)
	switch op {
	case api.ExDiv, api.ExMod:
		if b == 0 {
			return 0, api.FaultZero
		}
		return Wrap(kind, divide(op, a, b)), api.FaultNone
	case api.ExLt, api.ExGt, api.ExLe, api.ExGe, api.ExEq, api.ExNe:
		return truth(compare(op, a, b)), api.FaultNone
	}
	return Wrap(kind, combine(op, a, b)), api.FaultNone
}

// Convert takes n of the kind from into the kind to.
func Convert(from, to int, n int64) int64 { return Wrap(to, Wrap(from, n)) }

// Shift moves a's bits by n places: SHL, ROL up, SHR, ROR down; 0 of any other
// name, or of a kind that isn't BYTE, WORD or DWORD.
func Shift(name string, kind int, a, n int64) int64 {
	switch kind {
	case api.KByte, api.KWord, api.KDword:
	default:
		return 0
	}
	a, n = Wrap(kind, a), max(n, 0)
	width := int64(Width(kind))
	// Moved by the width, all bits are gone: further is the same.
	switch name {
	case "SHL":
		return Wrap(kind, a<<min(n, width))
	case "SHR":
		return a >> min(n, width)
	case "ROL":
		return turn(kind, a, n%width, width)
	case "ROR":
		return turn(kind, a, width-n%width, width)
	}
	return 0
}

// divide needs a b that isn't 0.
func divide(op int, a, b int64) int64 {
	if op == api.ExDiv {
		return a / b
	}
	return a % b
}

// combine answers in all 64 bits, modulo 2^64: cut to fewer bits that is the
// right number still.
func combine(op int, a, b int64) int64 {
	switch op {
	case api.ExAdd:
		return a + b
	case api.ExSub:
		return a - b
	case api.ExMul:
		return a * b
	case api.ExAnd:
		return a & b
	case api.ExOr:
		return a | b
	case api.ExXor:
		return a ^ b
	}
	return 0
}

func compare(op int, a, b int64) bool {
	switch op {
	case api.ExLt:
		return a < b
	case api.ExGt:
		return a > b
	case api.ExLe:
		return a <= b
	case api.ExGe:
		return a >= b
	case api.ExEq:
		return a == b
	}
	return a != b
}

// turn moves bits up by n places, from 0 to width; those that go out at the
// top come in below.
func turn(kind int, a, n, width int64) int64 {
	return Wrap(kind, a<<n|a>>(width-n))
}

func truth(holds bool) int64 {
	if holds {
		return 1
	}
	return 0
}
