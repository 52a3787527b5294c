package pdu

import "rung/api"

// The functions that are known.
const (
	readCoils      = 1
	readDiscretes  = 2
	readHoldings   = 3
	readInputs     = 4
	writeCoil      = 5
	writeRegister  = 6
	writeCoils     = 15
	writeRegisters = 16
	maskRegister   = 22
	writeAndRead   = 23
)

// How many bits and registers one PDU may read or write.
const (
	maxReadBits      = 2000
	maxReadRegs      = 125
	maxWriteBits     = 1968
	maxWriteRegs     = 123
	maxWriteReadRegs = 121
	maxAddr          = 0xFFFF
)

// span is the least and the most that a field may be, or a list may have.
type span struct{ least, most uint16 }

// limits are those of a PDU's fields. A field that a function doesn't use has
// a zero span: nothing but zero, or an empty list, is within it. An addr is
// of replies alone: all requests have one, which may be any.
type limits struct{ addr, addr2, n, bits, regs span }

// within asks all limits, of numbers and of lists' lengths.
func within[N int | uint16](n N, s span) bool {
	return N(s.least) <= n && n <= N(s.most)
}

// requestLimits tells the limits of fn's requests, and whether fn is known.
func requestLimits(fn byte) (limits, bool) {
	switch fn {
	case readCoils, readDiscretes:
		return limits{n: span{1, maxReadBits}}, true
	case readHoldings, readInputs:
		return limits{n: span{1, maxReadRegs}}, true
	case writeCoil:
		return limits{bits: span{1, 1}}, true
	case writeRegister:
		return limits{regs: span{1, 1}}, true
	case writeCoils:
		return limits{bits: span{1, maxWriteBits}}, true
	case writeRegisters:
		return limits{regs: span{1, maxWriteRegs}}, true
	case maskRegister:
		return limits{regs: span{2, 2}}, true
	case writeAndRead:
		return limits{addr2: span{0, maxAddr}, n: span{1, maxReadRegs}, regs: span{1, maxWriteReadRegs}}, true
	}
	return limits{}, false
}

// replyLimits tells the limits of fn's replies that are no exceptions, and
// whether fn is known.
func replyLimits(fn byte) (limits, bool) {
	anyAddr := span{0, maxAddr}
	switch fn {
	case readCoils, readDiscretes:
		return limits{bits: span{1, maxReadBits}}, true
	case readHoldings, readInputs, writeAndRead:
		return limits{regs: span{1, maxReadRegs}}, true
	case writeCoil:
		return limits{addr: anyAddr, bits: span{1, 1}}, true
	case writeRegister:
		return limits{addr: anyAddr, regs: span{1, 1}}, true
	case writeCoils:
		return limits{addr: anyAddr, n: span{1, maxWriteBits}}, true
	case writeRegisters:
		return limits{addr: anyAddr, n: span{1, maxWriteRegs}}, true
	case maskRegister:
		return limits{addr: anyAddr, regs: span{2, 2}}, true
	}
	return limits{}, false
}

// requestFits tells whether r is such that it can be written.
func requestFits(r api.Request) bool {
	l, known := requestLimits(r.Fn)
	return known && within(r.Addr2, l.addr2) && within(r.N, l.n) &&
		within(len(r.Bits), l.bits) && within(len(r.Regs), l.regs)
}

// replyFits tells whether r is such that it can be written. An exception may
// answer a function that isn't known: it has a function and a code alone.
func replyFits(r api.Reply) bool {
	l, fits := replyLimits(r.Fn)
	if r.Exc != 0 {
		l, fits = limits{}, r.Fn < exception
	}
	return fits && within(r.Addr, l.addr) && within(r.N, l.n) &&
		within(len(r.Bits), l.bits) && within(len(r.Regs), l.regs)
}
