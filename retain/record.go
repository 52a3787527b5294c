package retain

import "rung/crc"

// A block that holds a record has, from its first byte on: its stamp twice; the
// record's turn, scan and count; its numbers; zeros; the sum of all that stands
// between the stamps ahead of it; its stamp twice.
//
// Stamps tell a torn block, sums don't: numbers may be such that sums agree. A
// write's stamp is unlike both bytes of the tail that it is laid over. So where
// a write tore within the record, the ends differ in two bytes at least, and
// one byte more that is spoilt doesn't hide it. Where they differ in one byte,
// the write tore in the first byte, or ahead of the last one: what stands
// between them is of one write. The sum tells a byte that is spoilt there.
const (
	word      = 8
	edge      = 2
	turnAt    = edge
	scanAt    = turnAt + word
	countAt   = scanAt + word
	numbersAt = countAt + word
	besides   = numbersAt + word + edge // a block's bytes that no number has
)

// record is what one Lay laid. Turns count Lays from 1 on, so that the greater
// one is the newer one: scans don't, they begin anew with power.
type record struct {
	turn, scan uint64
	numbers    []int64
}

// fits tells how many numbers there is room for in a block of size bytes.
func fits(size int) int { return (size - besides) / word }

// sumAt tells where the sum stands in a block of size bytes.
func sumAt(size int) int { return size - edge - word }

// pack tells a block of size bytes that holds r, as yet without a stamp.
func pack(r record, size int) []byte {
	b := make([]byte, size)
	put(b, turnAt, r.turn)
	put(b, scanAt, r.scan)
	put(b, countAt, uint64(len(r.numbers)))
	for i, x := range r.numbers {
		put(b, numbersAt+i*word, uint64(x))
	}
	put(b, sumAt(size), sum(b))
	return b
}

// unpack tells the record that a block holds, if it is whole, else one of turn 0.
func unpack(b []byte) record {
	s := ends(b)
	if s[0] == 0 || s != [2 * edge]byte{s[0], s[0], s[0], s[0]} {
		return record{}
	}
	if get(b, sumAt(len(b))) != sum(b) {
		return record{}
	}
	count := get(b, countAt)
	if count > uint64(fits(len(b))) {
		return record{}
	}
	r := record{turn: get(b, turnAt), scan: get(b, scanAt), numbers: make([]int64, count)}
	for i := range r.numbers {
		r.numbers[i] = int64(get(b, numbersAt+i*word))
	}
	return r
}

// sum tells the sum that stands in block b, if nothing is spoilt.
func sum(b []byte) uint64 { return uint64(crc.Sum32(b[edge:sumAt(len(b))])) }

// ends tells the four bytes of block b where the stamps stand.
func ends(b []byte) [2 * edge]byte {
	n := len(b)
	return [2 * edge]byte{b[0], b[1], b[n-2], b[n-1]}
}

// begun tells whether a write of the block was ever begun: stamps aren't 0, and
// one byte that isn't may be a spoilt one.
func begun(b []byte) bool {
	n := 0
	for _, x := range ends(b) {
		if x != 0 {
			n++
		}
	}
	return n > 1
}

// stamp makes block b ready to be written over old.
func stamp(b, old []byte) {
	tail := ends(old)
	s := byte(1)
	for s == tail[2] || s == tail[3] {
		s++
	}
	n := len(b)
	b[0], b[1], b[n-2], b[n-1] = s, s, s, s
}

// put writes x to b at a place, its highest byte first.
func put(b []byte, at int, x uint64) {
	for i := range word {
		b[at+i] = byte(x >> (8 * (word - 1 - i)))
	}
}

// get tells the number that put wrote.
func get(b []byte, at int) uint64 {
	x := uint64(0)
	for i := range word {
		x = x<<8 | uint64(b[at+i])
	}
	return x
}
