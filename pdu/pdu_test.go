package pdu

import (
	"bytes"
	"encoding/binary"
	"encoding/hex"
	"math"
	"math/rand"
	"slices"
	"strings"
	"testing"

	"rung/api"
)

// limit is a row of the document's tables, written out by hand: the least and
// the most of each field, both 0 of one that isn't used.
type limit struct {
	fn            byte
	addr, addr2   bool
	n, bits, regs [2]int
}

var requestRows = []limit{
	{fn: 1, addr: true, n: [2]int{1, 2000}},
	{fn: 2, addr: true, n: [2]int{1, 2000}},
	{fn: 3, addr: true, n: [2]int{1, 125}},
	{fn: 4, addr: true, n: [2]int{1, 125}},
	{fn: 5, addr: true, bits: [2]int{1, 1}},
	{fn: 6, addr: true, regs: [2]int{1, 1}},
	{fn: 15, addr: true, bits: [2]int{1, 1968}},
	{fn: 16, addr: true, regs: [2]int{1, 123}},
	{fn: 22, addr: true, regs: [2]int{2, 2}},
	{fn: 23, addr: true, addr2: true, n: [2]int{1, 125}, regs: [2]int{1, 121}},
}

var replyRows = []limit{
	{fn: 1, bits: [2]int{1, 2000}},
	{fn: 2, bits: [2]int{1, 2000}},
	{fn: 3, regs: [2]int{1, 125}},
	{fn: 4, regs: [2]int{1, 125}},
	{fn: 5, addr: true, bits: [2]int{1, 1}},
	{fn: 6, addr: true, regs: [2]int{1, 1}},
	{fn: 15, addr: true, n: [2]int{1, 1968}},
	{fn: 16, addr: true, n: [2]int{1, 123}},
	{fn: 22, addr: true, regs: [2]int{2, 2}},
	{fn: 23, regs: [2]int{1, 125}},
}

func sameRequest(a, b api.Request) bool {
	return a.Fn == b.Fn && a.Addr == b.Addr && a.N == b.N && a.Addr2 == b.Addr2 && slices.Equal(a.Bits, b.Bits) && slices.Equal(a.Regs, b.Regs)
}

func sameReply(a, b api.Reply) bool {
	return a.Fn == b.Fn && a.Exc == b.Exc && a.Addr == b.Addr && a.N == b.N && slices.Equal(a.Bits, b.Bits) && slices.Equal(a.Regs, b.Regs)
}

// unhex reads digits, which may have spaces between them.
func unhex(text string) []byte {
	b, err := hex.DecodeString(strings.ReplaceAll(text, " ", ""))
	if err != nil {
		panic(err)
	}
	return b
}

func between(n int, l [2]int) bool { return l[0] <= n && n <= l[1] }

// someNumbers are those about a limit, and far from it.
func someNumbers(l [2]int) []int {
	out := []int{0, 1, 2, 3, 121, 122, 123, 124, 125, 126, 1968, 1969, 2000, 2001, 2008}
	for _, n := range l {
		out = append(out, max(n-1, 0), n, n+1)
	}
	slices.Sort(out)
	return slices.Compact(out)
}

func randomBits(r *rand.Rand, n int) []bool {
	l := make([]bool, n)
	for i := range l {
		l[i] = r.Intn(2) == 1
	}
	return l
}

func randomRegs(r *rand.Rand, n int) []uint16 {
	l := make([]uint16, n)
	for i := range l {
		l[i] = uint16(r.Intn(1 << 16))
	}
	return l
}

func randomCount(r *rand.Rand, l [2]int) int { return l[0] + r.Intn(l[1]-l[0]+1) }

// randomRequest is a right one.
func randomRequest(r *rand.Rand) api.Request {
	row := requestRows[r.Intn(len(requestRows))]
	q := api.Request{Fn: row.fn, Addr: uint16(r.Intn(1 << 16)), N: uint16(randomCount(r, row.n))}
	if row.addr2 {
		q.Addr2 = uint16(r.Intn(1 << 16))
	}
	q.Bits = randomBits(r, randomCount(r, row.bits))
	q.Regs = randomRegs(r, randomCount(r, row.regs))
	return q
}

// answerTo is a right reply to q, with what was read at random.
func answerTo(r *rand.Rand, q api.Request) api.Reply {
	switch q.Fn {
	case 1, 2:
		return api.Reply{Fn: q.Fn, Bits: randomBits(r, int(q.N))}
	case 3, 4, 23:
		return api.Reply{Fn: q.Fn, Regs: randomRegs(r, int(q.N))}
	case 15, 16:
		return api.Reply{Fn: q.Fn, Addr: q.Addr, N: uint16(len(q.Bits) + len(q.Regs))}
	}
	return api.Reply{Fn: q.Fn, Addr: q.Addr, Bits: slices.Clone(q.Bits), Regs: slices.Clone(q.Regs)}
}

// laidBits are bits as bytes, worked out bit by bit beside the package's way.
func laidBits(l []bool) []byte {
	var b []byte
	for part := range slices.Chunk(l, 8) {
		sum, weight := 0, 1
		for _, on := range part {
			if on {
				sum += weight
			}
			weight *= 2
		}
		b = append(b, byte(sum))
	}
	return b
}

func laidRegs(l []uint16) []byte {
	var b []byte
	for _, w := range l {
		b = binary.BigEndian.AppendUint16(b, w)
	}
	return b
}

func laidCoil(l []bool) []byte {
	if l[0] {
		return []byte{0xFF, 0}
	}
	return []byte{0, 0}
}

// laidRequest is the document's table of requests, row by row.
func laidRequest(q api.Request) []byte {
	addr, n, addr2 := laidRegs([]uint16{q.Addr}), laidRegs([]uint16{q.N}), laidRegs([]uint16{q.Addr2})
	bits, regs := laidBits(q.Bits), laidRegs(q.Regs)
	many := laidRegs([]uint16{uint16(len(q.Bits) + len(q.Regs))})
	b := append([]byte{q.Fn}, addr...)
	switch q.Fn {
	case 1, 2, 3, 4:
		return append(b, n...)
	case 5:
		return append(b, laidCoil(q.Bits)...)
	case 6, 22:
		return append(b, regs...)
	case 15:
		return slices.Concat(b, many, []byte{byte(len(bits))}, bits)
	case 16:
		return slices.Concat(b, many, []byte{byte(len(regs))}, regs)
	}
	return slices.Concat(b, n, addr2, many, []byte{byte(len(regs))}, regs)
}

// laidReply is the document's P3.3, row by row.
func laidReply(r api.Reply) []byte {
	bits, regs := laidBits(r.Bits), laidRegs(r.Regs)
	addr := laidRegs([]uint16{r.Addr})
	switch {
	case r.Exc != 0:
		return []byte{r.Fn + 0x80, r.Exc}
	case r.Fn == 1 || r.Fn == 2:
		return slices.Concat([]byte{r.Fn, byte(len(bits))}, bits)
	case r.Fn == 3 || r.Fn == 4 || r.Fn == 23:
		return slices.Concat([]byte{r.Fn, byte(len(regs))}, regs)
	case r.Fn == 5:
		return slices.Concat([]byte{r.Fn}, addr, laidCoil(r.Bits))
	case r.Fn == 15 || r.Fn == 16:
		return slices.Concat([]byte{r.Fn}, addr, laidRegs([]uint16{r.N}))
	}
	return slices.Concat([]byte{r.Fn}, addr, regs)
}

// refuseRequest fails if r is taken, or if something is told beside the error.
func refuseRequest(t *testing.T, r api.Request, why string) {
	t.Helper()
	if b, e := Request(r); e != api.ErrPduForm || len(b) != 0 {
		t.Errorf("P3.1: %s: Fn %d, Addr2 %d, N %d, %d bits, %d registers: %x, %v", why, r.Fn, r.Addr2, r.N, len(r.Bits), len(r.Regs), b, e)
	}
}

func refuseBytes(t *testing.T, b []byte, why string) {
	t.Helper()
	if r, e := OpenRequest(b); e != api.ErrPduForm || !sameRequest(r, api.Request{}) {
		t.Errorf("P3.2: %s: %x: %v, %v", why, b, r, e)
	}
}

func refuseReply(t *testing.T, r api.Reply, why string) {
	t.Helper()
	if b, e := Reply(r); e != api.ErrPduForm || len(b) != 0 {
		t.Errorf("P3.3: %s: Fn %d, Exc %d, Addr %d, N %d, %d bits, %d registers: %x, %v", why, r.Fn, r.Exc, r.Addr, r.N, len(r.Bits), len(r.Regs), b, e)
	}
}

func refuseAnswer(t *testing.T, q api.Request, b []byte, why string) {
	t.Helper()
	if r, e := OpenReply(q, b); e != api.ErrPduForm || !sameReply(r, api.Reply{}) {
		t.Errorf("P3.4: %s: to Fn %d, N %d: %x: %v, %v", why, q.Fn, q.N, b, r, e)
	}
}

// P3.1, P3.2: the examples of the Application Protocol, and the document's.
func TestKnownRequests(t *testing.T) {
	for _, x := range []struct {
		r    api.Request
		want string
	}{
		{api.Request{Fn: 1, Addr: 19, N: 19}, "01 0013 0013"},
		{api.Request{Fn: 2, Addr: 196, N: 22}, "02 00C4 0016"},
		{api.Request{Fn: 3, Addr: 107, N: 3}, "03 006B 0003"},
		{api.Request{Fn: 4, Addr: 8, N: 1}, "04 0008 0001"},
		{api.Request{Fn: 5, Addr: 172, Bits: []bool{true}}, "05 00AC FF00"},
		{api.Request{Fn: 5, Addr: 0xABCD, Bits: []bool{false}}, "05 ABCD 0000"},
		{api.Request{Fn: 6, Addr: 1, Regs: []uint16{3}}, "06 0001 0003"},
		{api.Request{Fn: 15, Addr: 19, Bits: []bool{true, false, true, true, false, false, true, true, true, false}}, "0F 0013 000A 02 CD01"},
		{api.Request{Fn: 15, Addr: 0xFFFF, Bits: []bool{false, false, false, false, false, false, false, true}}, "0F FFFF 0008 01 80"},
		{api.Request{Fn: 16, Addr: 1, Regs: []uint16{0x000A, 0x0102}}, "10 0001 0002 04 000A 0102"},
		{api.Request{Fn: 22, Addr: 4, Regs: []uint16{0x00F2, 0x0025}}, "16 0004 00F2 0025"},
		{api.Request{Fn: 23, Addr: 3, N: 6, Addr2: 14, Regs: []uint16{0x00FF, 0x00FE, 0x01FF}}, "17 0003 0006 000E 0003 06 00FF 00FE 01FF"},
		{api.Request{Fn: 23, Addr: 0x1234, N: 125, Addr2: 0x5678, Regs: []uint16{0x9ABC}}, "17 1234 007D 5678 0001 02 9ABC"},
	} {
		want := unhex(x.want)
		if b, e := Request(x.r); e != api.OK || !bytes.Equal(b, want) {
			t.Errorf("P3.1: %v: %x, %v, not %x", x.r, b, e, want)
		}
		if r, e := OpenRequest(want); e != api.OK || !sameRequest(r, x.r) {
			t.Errorf("P3.2: %x: %v, %v, not %v", want, r, e, x.r)
		}
	}
}

// P3.1: each function with each number, and each length of a list, about all
// limits; the fields that it doesn't use among them.
func TestRequestLimits(t *testing.T) {
	for _, row := range requestRows {
		good := api.Request{Fn: row.fn, N: uint16(row.n[0]), Bits: make([]bool, row.bits[0]), Regs: make([]uint16, row.regs[0])}
		try := func(r api.Request, right bool) {
			t.Helper()
			if !right {
				refuseRequest(t, r, "a limit")
				return
			}
			if b, e := Request(r); e != api.OK || !bytes.Equal(b, laidRequest(r)) || len(b) > api.MaxPdu {
				t.Errorf("P3.1: Fn %d, N %d, %d bits, %d registers: %x, %v", r.Fn, r.N, len(r.Bits), len(r.Regs), b, e)
			}
		}
		for _, n := range append(someNumbers(row.n), 32767, 32768, 65535) {
			r := good
			r.N = uint16(n)
			try(r, between(n, row.n))
		}
		for _, n := range append(someNumbers(row.bits), 65536, 65537, 65536+1968) {
			r := good
			r.Bits = make([]bool, n)
			try(r, between(n, row.bits))
		}
		for _, n := range append(someNumbers(row.regs), 65536, 65537, 65536+121) {
			r := good
			r.Regs = make([]uint16, n)
			try(r, between(n, row.regs))
		}
		for _, addr := range []uint16{0, 1, 255, 256, 32768, 65535} {
			r := good
			r.Addr = addr
			try(r, true)
			r = good
			r.Addr2 = addr
			try(r, addr == 0 || row.addr2)
		}
	}
}

// P3.1, P3.2, P3.5: functions that aren't known.
func TestKnown(t *testing.T) {
	known := 0
	for fn := range 256 {
		want := slices.ContainsFunc(requestRows, func(l limit) bool { return int(l.fn) == fn })
		if Known(byte(fn)) != want {
			t.Errorf("P3.5: Known(%d): %v", fn, !want)
		}
		if want {
			known++
			continue
		}
		for _, row := range requestRows {
			refuseRequest(t, api.Request{Fn: byte(fn), N: uint16(row.n[0]), Bits: make([]bool, row.bits[0]), Regs: make([]uint16, row.regs[0])}, "a function")
			refuseReply(t, api.Reply{Fn: byte(fn), N: uint16(row.n[0]), Bits: make([]bool, row.bits[0]), Regs: make([]uint16, row.regs[0])}, "a function")
		}
		for n := range 14 {
			b := make([]byte, n+1)
			b[0] = byte(fn)
			b[n] |= byte(min(n, 1))
			refuseBytes(t, b, "a function")
		}
	}
	if known != 10 {
		t.Errorf("P3.5: %d functions are known", known)
	}
}

// P3.2: a byte too few, a byte too many, at each place.
func TestRequestsCutAndLonger(t *testing.T) {
	r := rand.New(rand.NewSource(1))
	for range 300 {
		b, e := Request(randomRequest(r))
		if e != api.OK {
			t.Fatalf("P3.1: %v", e)
		}
		for n := range b {
			refuseBytes(t, b[:n], "cut")
		}
		for _, more := range []int{1, 2, 3, 4, 8, 300} {
			refuseBytes(t, append(bytes.Clone(b), make([]byte, more)...), "longer")
		}
	}
}

// P3.2: counts that don't say what the number asks for, or what follows.
func TestRequestsWithWrongCounts(t *testing.T) {
	for _, x := range []struct {
		why, bytes string
	}{
		{"nothing", ""},
		{"no bits", "01 0000 0000"},
		{"too many bits", "01 0000 07D1"},
		{"too many bits", "02 0000 FFFF"},
		{"no registers", "03 0000 0000"},
		{"too many registers", "03 0000 007E"},
		{"too many registers", "04 0000 017D"},
		{"no bits to write", "0F 0000 0000 00"},
		{"no bits, yet a byte", "0F 0000 0000 01 00"},
		{"a count too great", "0F 0000 0008 02 0000"},
		{"a count too small", "0F 0000 0009 01 00"},
		{"a count, but no bytes", "0F 0000 0008 01"},
		{"more than the count", "0F 0000 0008 01 0000"},
		{"a count of 256 that reads as 0", "0F 0000 0800 00"},
		{"a count of bits", "0F 0000 0008 08 0000000000000000"},
		{"no registers to write", "10 0000 0000 00"},
		{"a count too great", "10 0000 0001 04 0000 0000"},
		{"a count too small", "10 0000 0002 02 0000"},
		{"an odd count", "10 0000 0001 03 0000 00"},
		{"a count of registers", "10 0000 0002 02 0000 0000"},
		{"a count of 256 that reads as 0", "10 0000 0080 00"},
		{"nothing read", "17 0000 0000 0000 0001 02 0000"},
		{"too much read", "17 0000 007E 0000 0001 02 0000"},
		{"nothing written", "17 0000 0001 0000 0000 00"},
		{"a count too great", "17 0000 0001 0000 0001 04 0000 0000"},
		{"a count too small", "17 0000 0001 0000 0002 02 0000"},
		{"the count lacks", "17 0000 0001 0000 0001"},
		{"two registers of 6", "06 0000 0000 0000"},
		{"one register of 22", "16 0000 0000"},
		{"three registers of 22", "16 0000 0000 0000 0000"},
		{"an exception", "83 02"},
		{"a reply", "03 02 0000"},
	} {
		refuseBytes(t, unhex(x.bytes), x.why)
	}
	for _, x := range []struct{ fn, number, count int }{{15, 1969, 247}, {15, 1976, 247}, {15, 2000, 250}, {15, 2040, 255}, {16, 124, 248}, {16, 127, 254}} {
		b := append([]byte{byte(x.fn), 0, 0, byte(x.number >> 8), byte(x.number), byte(x.count)}, make([]byte, x.count)...)
		refuseBytes(t, b, "too much written")
	}
	for _, n := range []int{122, 123, 127} {
		b := append([]byte{23, 0, 0, 0, 1, 0, 0, 0, byte(n), byte(2 * n)}, make([]byte, 2*n)...)
		refuseBytes(t, b, "too much written")
	}
}

// P3.2: the greatest requests that there are.
func TestGreatestRequests(t *testing.T) {
	for _, r := range []api.Request{
		{Fn: 15, Addr: 65535, Bits: make([]bool, 1968)},
		{Fn: 16, Addr: 65535, Regs: make([]uint16, 123)},
		{Fn: 23, Addr: 65535, N: 125, Addr2: 65535, Regs: make([]uint16, 121)},
	} {
		b, e := Request(r)
		if e != api.OK || len(b) != 252 {
			t.Errorf("P3.1: Fn %d: %d bytes, %v", r.Fn, len(b), e)
		}
		if got, e := OpenRequest(b); e != api.OK || !sameRequest(got, r) {
			t.Errorf("P3.2: Fn %d: %v", r.Fn, e)
		}
	}
}

// P3.2: each word behind the address, of each function: of 1 to 4 it is N, of
// 5 just two are taken, of 6 all.
func TestAllWordsOfRequests(t *testing.T) {
	for w := range 1 << 16 {
		for _, x := range []struct {
			fn    byte
			taken bool
			n     uint16
			bits  []bool
			regs  []uint16
		}{
			{fn: 1, taken: 1 <= w && w <= 2000, n: uint16(w)},
			{fn: 2, taken: 1 <= w && w <= 2000, n: uint16(w)},
			{fn: 3, taken: 1 <= w && w <= 125, n: uint16(w)},
			{fn: 4, taken: 1 <= w && w <= 125, n: uint16(w)},
			{fn: 5, taken: w == 0 || w == 0xFF00, bits: []bool{w == 0xFF00}},
			{fn: 6, taken: true, regs: []uint16{uint16(w)}},
		} {
			b := []byte{x.fn, 0x12, 0x34, byte(w >> 8), byte(w)}
			if !x.taken {
				refuseBytes(t, b, "a word")
				continue
			}
			want := api.Request{Fn: x.fn, Addr: 0x1234, N: x.n, Bits: x.bits, Regs: x.regs}
			if r, e := OpenRequest(b); e != api.OK || !sameRequest(r, want) {
				t.Fatalf("P3.2: %x: %v, %v", b, r, e)
			}
		}
	}
}

// P3.2: any bits are taken behind the last one, and say nothing.
func TestBitsBehindTheLastOfRequests(t *testing.T) {
	r := rand.New(rand.NewSource(2))
	for n := 1; n <= 1968; n += 1 + r.Intn(5) {
		q := api.Request{Fn: 15, Addr: 7, Bits: randomBits(r, n)}
		b := laidRequest(q)
		for range 4 {
			b[len(b)-1] ^= byte(r.Intn(256) << ((n-1)%8 + 1))
			if got, e := OpenRequest(b); e != api.OK || !sameRequest(got, q) {
				t.Fatalf("P3.2: %d bits: %v", n, e)
			}
		}
		b[len(b)-1] ^= 1 << ((n - 1) % 8)
		if got, e := OpenRequest(b); e != api.OK || got.Bits[n-1] == q.Bits[n-1] {
			t.Fatalf("P3.2: %d bits: the last one says nothing, %v", n, e)
		}
	}
}

// P3.3: the examples of the Application Protocol, and the document's.
func TestKnownReplies(t *testing.T) {
	for _, x := range []struct {
		r    api.Reply
		want string
	}{
		{api.Reply{Fn: 1, Exc: 2}, "81 02"},
		{api.Reply{Fn: 0, Exc: 1}, "80 01"},
		{api.Reply{Fn: 127, Exc: 255}, "FF FF"},
		{api.Reply{Fn: 7, Exc: 1}, "87 01"},
		{api.Reply{Fn: 1, Bits: Bits([]byte{0xCD, 0x6B, 0x05}, 19)}, "01 03 CD6B05"},
		{api.Reply{Fn: 2, Bits: Bits([]byte{0xAC, 0xDB, 0x35}, 22)}, "02 03 ACDB35"},
		{api.Reply{Fn: 3, Regs: []uint16{0x022B, 0, 0x0064}}, "03 06 022B 0000 0064"},
		{api.Reply{Fn: 4, Regs: []uint16{10}}, "04 02 000A"},
		{api.Reply{Fn: 5, Addr: 172, Bits: []bool{true}}, "05 00AC FF00"},
		{api.Reply{Fn: 5, Addr: 0xABCD, Bits: []bool{false}}, "05 ABCD 0000"},
		{api.Reply{Fn: 6, Addr: 1, Regs: []uint16{3}}, "06 0001 0003"},
		{api.Reply{Fn: 15, Addr: 19, N: 10}, "0F 0013 000A"},
		{api.Reply{Fn: 15, Addr: 19, N: 1968}, "0F 0013 07B0"},
		{api.Reply{Fn: 16, Addr: 1, N: 2}, "10 0001 0002"},
		{api.Reply{Fn: 22, Addr: 4, Regs: []uint16{0x00F2, 0x0025}}, "16 0004 00F2 0025"},
		{api.Reply{Fn: 23, Regs: []uint16{0x00FE, 0x0ACD, 1, 3, 0x000D, 0x00FF}}, "17 0C 00FE 0ACD 0001 0003 000D 00FF"},
	} {
		want := unhex(x.want)
		if b, e := Reply(x.r); e != api.OK || !bytes.Equal(b, want) {
			t.Errorf("P3.3: %v: %x, %v, not %x", x.r, b, e, want)
		}
	}
}

// P3.3: each function with each number, and each length of a list, about all
// limits; the fields that it doesn't use among them.
func TestReplyLimits(t *testing.T) {
	for _, row := range replyRows {
		good := api.Reply{Fn: row.fn, N: uint16(row.n[0]), Bits: make([]bool, row.bits[0]), Regs: make([]uint16, row.regs[0])}
		try := func(r api.Reply, right bool) {
			t.Helper()
			if !right {
				refuseReply(t, r, "a limit")
				return
			}
			if b, e := Reply(r); e != api.OK || !bytes.Equal(b, laidReply(r)) || len(b) > api.MaxPdu {
				t.Errorf("P3.3: Fn %d, N %d, %d bits, %d registers: %x, %v", r.Fn, r.N, len(r.Bits), len(r.Regs), b, e)
			}
		}
		for _, n := range append(someNumbers(row.n), 32767, 32768, 65535) {
			r := good
			r.N = uint16(n)
			try(r, between(n, row.n))
		}
		for _, n := range append(someNumbers(row.bits), 65536, 65537, 65536+2000) {
			r := good
			r.Bits = make([]bool, n)
			try(r, between(n, row.bits))
		}
		for _, n := range append(someNumbers(row.regs), 65536, 65537, 65536+125) {
			r := good
			r.Regs = make([]uint16, n)
			try(r, between(n, row.regs))
		}
		for _, addr := range []uint16{0, 1, 255, 256, 32768, 65535} {
			r := good
			r.Addr = addr
			try(r, addr == 0 || row.addr)
		}
		good.Exc = 1
		refuseReply(t, good, "an exception with an answer")
	}
}

// P3.3: an exception has any function below 128 and any code but 0, and
// nothing else.
func TestExceptions(t *testing.T) {
	for fn := range 256 {
		for exc := 1; exc < 256; exc++ {
			r := api.Reply{Fn: byte(fn), Exc: byte(exc)}
			if fn >= 128 {
				refuseReply(t, r, "a function above 127")
				continue
			}
			if b, e := Reply(r); e != api.OK || !bytes.Equal(b, []byte{byte(fn) + 0x80, byte(exc)}) {
				t.Errorf("P3.3: %d, %d: %x, %v", fn, exc, b, e)
			}
		}
		f := byte(fn)
		refuseReply(t, api.Reply{Fn: f}, "nothing at all")
		refuseReply(t, api.Reply{Fn: f, Exc: 1, Addr: 1}, "an exception with an address")
		refuseReply(t, api.Reply{Fn: f, Exc: 1, N: 1}, "an exception with a number")
		refuseReply(t, api.Reply{Fn: f, Exc: 1, Bits: make([]bool, 1)}, "an exception with bits")
		refuseReply(t, api.Reply{Fn: f, Exc: 1, Regs: make([]uint16, 1)}, "an exception with registers")
	}
}

// P3.4: of all pairs of bytes just those with the request's function and a
// code are taken.
func TestOpenExceptions(t *testing.T) {
	r := rand.New(rand.NewSource(3))
	for _, row := range requestRows {
		q := api.Request{Fn: row.fn, N: uint16(randomCount(r, row.n)), Bits: randomBits(r, row.bits[1]), Regs: randomRegs(r, row.regs[1])}
		for fn := range 256 {
			for exc := range 256 {
				b := []byte{byte(fn), byte(exc)}
				if fn != int(row.fn)+0x80 || exc == 0 {
					refuseAnswer(t, q, b, "no exception")
					continue
				}
				if got, e := OpenReply(q, b); e != api.OK || !sameReply(got, api.Reply{Fn: row.fn, Exc: byte(exc)}) {
					t.Errorf("P3.4: %x: %v, %v", b, got, e)
				}
			}
		}
		refuseAnswer(t, q, []byte{row.fn + 0x80}, "an exception without a code")
		refuseAnswer(t, q, []byte{row.fn + 0x80, 1, 0}, "an exception and a byte")
	}
}

// P3.4: what isn't a request has no reply, not even an exception.
func TestRepliesToNoRequest(t *testing.T) {
	r := rand.New(rand.NewSource(4))
	for range 2000 {
		q := randomRequest(r)
		b := laidReply(answerTo(r, q))
		exc := []byte{q.Fn + 0x80, 1}
		if _, e := OpenReply(q, b); e != api.OK {
			t.Fatalf("P3.4: %v", e)
		}
		for i := range 6 {
			bad := q
			switch i {
			case 0:
				bad.Fn |= 0x80
			case 1:
				bad.Fn = 7
			case 2:
				bad.N += 2001
			case 3:
				bad.Bits = append(slices.Clone(q.Bits), make([]bool, 1969)...)
			case 4:
				bad.Regs = append(slices.Clone(q.Regs), make([]uint16, 125)...)
			case 5:
				if bad.Addr2++; q.Fn == 23 {
					continue
				}
			}
			refuseAnswer(t, bad, b, "no request")
			refuseAnswer(t, bad, exc, "no request, an exception")
			refuseAnswer(t, bad, []byte{bad.Fn | 0x80, 1}, "no request, its exception")
		}
		refuseAnswer(t, api.Request{}, b, "a zero request")
		refuseAnswer(t, api.Request{}, []byte{0x80, 1}, "a zero request")
	}
}

// P3.4: right replies are taken as they were written; cut, longer, of another
// function they aren't.
func TestOpenReplies(t *testing.T) {
	r := rand.New(rand.NewSource(5))
	for range 2000 {
		q := randomRequest(r)
		want := answerTo(r, q)
		b := laidReply(want)
		if got, e := OpenReply(q, b); e != api.OK || !sameReply(got, want) {
			t.Fatalf("P3.4: to Fn %d, N %d: %x: %v, %v", q.Fn, q.N, b, got, e)
		}
		for n := range b {
			refuseAnswer(t, q, b[:n], "cut")
		}
		for _, more := range []int{1, 2, 3, 8, 300} {
			refuseAnswer(t, q, append(bytes.Clone(b), make([]byte, more)...), "longer")
		}
		other := bytes.Clone(b)
		for fn := range 256 {
			if other[0] = byte(fn); other[0] != q.Fn {
				refuseAnswer(t, q, other, "another function")
			}
		}
	}
}

// P3.4: the answer to reading must be as much as was asked for, no more and no
// less; bits in as many bytes.
func TestAnswersOfAnotherLength(t *testing.T) {
	for _, fn := range []byte{1, 2} {
		for _, n := range []int{1, 7, 8, 9, 16, 17, 1999, 2000} {
			for count := range 256 {
				b := append([]byte{fn, byte(count)}, make([]byte, count)...)
				q := api.Request{Fn: fn, N: uint16(n)}
				if count != (n+7)/8 {
					refuseAnswer(t, q, b, "another length")
					continue
				}
				if r, e := OpenReply(q, b); e != api.OK || !sameReply(r, api.Reply{Fn: fn, Bits: make([]bool, n)}) {
					t.Errorf("P3.4: Fn %d, N %d: %v", fn, n, e)
				}
			}
		}
	}
	for _, fn := range []byte{3, 4, 23} {
		for _, n := range []int{1, 2, 3, 124, 125} {
			q := api.Request{Fn: fn, N: uint16(n)}
			if fn == 23 {
				q.Regs = make([]uint16, 5)
			}
			for count := range 256 {
				b := append([]byte{fn, byte(count)}, make([]byte, count)...)
				if count != 2*n {
					refuseAnswer(t, q, b, "another length")
					continue
				}
				if r, e := OpenReply(q, b); e != api.OK || !sameReply(r, api.Reply{Fn: fn, Regs: make([]uint16, n)}) {
					t.Errorf("P3.4: Fn %d, N %d: %v", fn, n, e)
				}
			}
		}
	}
}

// P3.4: a count byte that doesn't say what follows.
func TestAnswersWithAWrongCount(t *testing.T) {
	r := rand.New(rand.NewSource(6))
	for range 300 {
		q := randomRequest(r)
		if q.N == 0 {
			continue
		}
		b := laidReply(answerTo(r, q))
		right := b[1]
		for count := range 256 {
			if b[1] = byte(count); b[1] != right {
				refuseAnswer(t, q, b, "a wrong count")
			}
		}
	}
}

// P3.4: what answers a writing function is just one list of bytes: each bit of
// it counts.
func TestEchoesMustBeTheSame(t *testing.T) {
	r := rand.New(rand.NewSource(7))
	for range 3000 {
		q := randomRequest(r)
		if q.N != 0 {
			continue
		}
		b := laidReply(answerTo(r, q))
		for bit := range 8 * len(b) {
			changed := bytes.Clone(b)
			changed[bit/8] ^= 1 << (bit % 8)
			refuseAnswer(t, q, changed, "a changed echo")
		}
	}
	off := api.Request{Fn: 5, Addr: 1, Bits: []bool{false}}
	on := api.Request{Fn: 5, Addr: 1, Bits: []bool{true}}
	refuseAnswer(t, off, unhex("05 0001 FF00"), "on for off")
	refuseAnswer(t, on, unhex("05 0001 0000"), "off for on")
	refuseAnswer(t, on, unhex("05 0001 00FF"), "neither")
	refuseAnswer(t, on, unhex("05 0100 FF00"), "the address's bytes changed round")
	refuseAnswer(t, api.Request{Fn: 15, Bits: make([]bool, 3)}, unhex("0F 0000 0003 01 00"), "the request itself")
	refuseAnswer(t, api.Request{Fn: 16, Regs: make([]uint16, 1)}, unhex("10 0000 0001 02 0000"), "the request itself")
	refuseAnswer(t, api.Request{Fn: 22, Regs: []uint16{1, 2}}, unhex("16 0000 0002 0001"), "masks changed round")
}

// P3.4: what stands behind the bits that were asked for says nothing.
func TestBitsBehindTheLastOfReplies(t *testing.T) {
	r := rand.New(rand.NewSource(8))
	for n := 1; n <= 2000; n += 1 + r.Intn(5) {
		q := api.Request{Fn: byte(1 + r.Intn(2)), Addr: 7, N: uint16(n)}
		want := answerTo(r, q)
		b := laidReply(want)
		for range 4 {
			b[len(b)-1] ^= byte(r.Intn(256) << ((n-1)%8 + 1))
			if got, e := OpenReply(q, b); e != api.OK || !sameReply(got, want) {
				t.Fatalf("P3.4: %d bits: %v", n, e)
			}
		}
		b[len(b)-1] ^= 1 << ((n - 1) % 8)
		if got, e := OpenReply(q, b); e != api.OK || got.Bits[n-1] == want.Bits[n-1] {
			t.Fatalf("P3.4: %d bits: the last one says nothing, %v", n, e)
		}
	}
}

// P3.5: bits of bytes, the lowest first; those that aren't there are false.
func TestBits(t *testing.T) {
	full := bytes.Repeat([]byte{0xFF}, 300)
	for _, x := range []struct {
		n, want int
	}{
		{math.MinInt, 0}, {-8, 0}, {-1, 0}, {0, 0}, {1, 1}, {7, 7}, {8, 8}, {9, 9}, {1999, 1999}, {2000, 2000}, {2001, 2000}, {2400, 2000}, {1 << 32, 2000}, {math.MaxInt, 2000},
	} {
		for _, b := range [][]byte{nil, {}, {0xFF}, full} {
			got := Bits(b, x.n)
			if len(got) != x.want {
				t.Fatalf("P3.5: %d bits of %d bytes: %d", x.n, len(b), len(got))
			}
			for i, on := range got {
				if on != (i < 8*len(b)) {
					t.Fatalf("P3.5: %d bits of %d bytes: the %dth is %v", x.n, len(b), i, on)
				}
			}
		}
	}
	for i := range 256 {
		got := Bits([]byte{0, byte(i)}, 16)
		for k := range 8 {
			if got[k] || got[8+k] != (i/(1<<k)%2 == 1) {
				t.Fatalf("P3.5: %08b: %v", i, got)
			}
		}
	}
}

// P3.5: bits as bytes, what is left 0; the other way round of Bits.
func TestPack(t *testing.T) {
	if len(Pack(nil)) != 0 || len(Pack([]bool{})) != 0 {
		t.Error("P3.5: bytes of no bits")
	}
	r := rand.New(rand.NewSource(9))
	for n := range 2100 {
		l := randomBits(r, n)
		b := Pack(l)
		if !bytes.Equal(b, laidBits(l)) {
			t.Fatalf("P3.5: %v: %x", l, b)
		}
		if n <= 2000 && !slices.Equal(Bits(b, n), l) {
			t.Fatalf("P3.5: %d bits aren't read back", n)
		}
	}
	if got := Pack(slices.Repeat([]bool{true}, 11)); !bytes.Equal(got, []byte{0xFF, 7}) {
		t.Errorf("P3.5: %x", got)
	}
}

// P3.6: what is written is read back.
func TestWrittenIsReadBack(t *testing.T) {
	r := rand.New(rand.NewSource(10))
	for range 20000 {
		q := randomRequest(r)
		b, e := Request(q)
		if e != api.OK || !bytes.Equal(b, laidRequest(q)) {
			t.Fatalf("P3.1: Fn %d: %x, %v", q.Fn, b, e)
		}
		if got, e := OpenRequest(b); e != api.OK || !sameRequest(got, q) {
			t.Fatalf("P3.6: Fn %d: %v", q.Fn, e)
		}
		want := answerTo(r, q)
		b, e = Reply(want)
		if e != api.OK || !bytes.Equal(b, laidReply(want)) {
			t.Fatalf("P3.3: Fn %d: %x, %v", q.Fn, b, e)
		}
		if got, e := OpenReply(q, b); e != api.OK || !sameReply(got, want) {
			t.Fatalf("P3.6: Fn %d: %v", q.Fn, e)
		}
	}
}

// clearBehind takes the bits behind the n-th away from the last byte.
func clearBehind(b []byte, n int) []byte {
	b = bytes.Clone(b)
	b[len(b)-1] &= byte(1<<((n-1)%8+1) - 1)
	return b
}

// P3.6, P3.2, P3.4: what is read is written with the same bytes, whatever the
// bytes: nothing is taken that isn't written so.
func TestReadIsWrittenAgain(t *testing.T) {
	r := rand.New(rand.NewSource(11))
	taken := 0
	for range 300000 {
		q := randomRequest(r)
		if r.Intn(2) == 0 { // short ones, so that changes fall on what counts
			q.Bits, q.Regs = q.Bits[:min(len(q.Bits), 9)], q.Regs[:min(len(q.Regs), 2)]
		}
		b := laidRequest(q)
		for range r.Intn(3) {
			b[r.Intn(min(len(b), 12))] = byte(r.Intn(256))
		}
		b = b[:len(b)-min(r.Intn(8)/6, len(b))]
		got, e := OpenRequest(b)
		if e != api.OK {
			continue
		}
		taken++
		again, e := Request(got)
		if len(got.Bits) > 0 && got.Fn == 15 {
			b = clearBehind(b, len(got.Bits))
		}
		if e != api.OK || !bytes.Equal(again, b) {
			t.Fatalf("P3.6: %x is written again as %x, %v", b, again, e)
		}
	}
	if taken < 10000 {
		t.Fatalf("only %d were taken", taken)
	}
	taken = 0
	for range 300000 {
		q := randomRequest(r)
		q.N = min(q.N, uint16(1+r.Intn(20)))
		b := laidReply(answerTo(r, q))
		if r.Intn(9) == 0 {
			b = []byte{q.Fn | 0x80, byte(r.Intn(256))}
		}
		for range r.Intn(3) {
			b[r.Intn(min(len(b), 6))] = byte(r.Intn(256))
		}
		got, e := OpenReply(q, b)
		if e != api.OK {
			continue
		}
		taken++
		again, e := Reply(got)
		if len(got.Bits) > 0 && got.Fn < 3 {
			b = clearBehind(b, len(got.Bits))
		}
		if e != api.OK || !bytes.Equal(again, b) || got.Fn != q.Fn {
			t.Fatalf("P3.6: %x is written again as %x, %v", b, again, e)
		}
	}
	if taken < 10000 {
		t.Fatalf("only %d were taken", taken)
	}
}

// What holds everywhere: any bytes and any fields are answered.
func TestAnyArguments(t *testing.T) {
	r := rand.New(rand.NewSource(12))
	for range 100000 {
		b := make([]byte, r.Intn(20))
		for i := range b {
			b[i] = byte(r.Intn(256)) & byte(r.Intn(256))
		}
		OpenRequest(b)
		q := randomRequest(r)
		OpenReply(q, b)
		if len(b) > 0 {
			b[0] = q.Fn
			OpenRequest(b)
			OpenReply(q, b)
		}
		q.Fn = byte(r.Intn(256))
		Request(q)
		OpenReply(q, b)
		Reply(api.Reply{Fn: q.Fn, Exc: byte(r.Intn(2)), Addr: q.Addr, N: q.N, Bits: q.Bits, Regs: q.Regs})
	}
	refuseBytes(t, make([]byte, 1<<20), "a million bytes")
	refuseBytes(t, append([]byte{6}, make([]byte, 1<<16)...), "too many registers")
}

// What holds everywhere: a nil list is as an empty one.
func TestNilListsAndEmptyOnes(t *testing.T) {
	a, e := Request(api.Request{Fn: 3, N: 1})
	b, f := Request(api.Request{Fn: 3, N: 1, Bits: []bool{}, Regs: []uint16{}})
	if e != api.OK || f != api.OK || !bytes.Equal(a, b) {
		t.Errorf("P3.1: %x, %v; %x, %v", a, e, b, f)
	}
	a, e = Reply(api.Reply{Fn: 3, Exc: 1})
	b, f = Reply(api.Reply{Fn: 3, Exc: 1, Bits: []bool{}, Regs: []uint16{}})
	if e != api.OK || f != api.OK || !bytes.Equal(a, b) {
		t.Errorf("P3.3: %x, %v; %x, %v", a, e, b, f)
	}
	refuseBytes(t, []byte{}, "an empty list")
	refuseAnswer(t, api.Request{Fn: 3, N: 1}, nil, "a nil list")
	refuseAnswer(t, api.Request{Fn: 3, N: 1}, []byte{}, "an empty list")
}

// What holds everywhere: what is handed in isn't changed, the room behind it
// neither; what is answered is new memory.
func TestArgumentsStay(t *testing.T) {
	r := rand.New(rand.NewSource(13))
	for range 2000 {
		q := randomRequest(r)
		bits, regs := append(slices.Clone(q.Bits), true, false), append(slices.Clone(q.Regs), 7, 8)
		keptBits, keptRegs := slices.Clone(bits), slices.Clone(regs)
		q.Bits, q.Regs = bits[:len(q.Bits)], regs[:len(q.Regs)]

		room := append(laidRequest(q), 0xAA, 0x55)
		kept := bytes.Clone(room)
		Request(q)
		got, e := OpenRequest(room[:len(room)-2])
		if e != api.OK || !bytes.Equal(room, kept) {
			t.Fatalf("P3.2: Fn %d: %v, or changed", q.Fn, e)
		}
		clear(room)
		if !sameRequest(got, q) {
			t.Fatalf("P3.2: Fn %d: the answer is the argument's memory", q.Fn)
		}

		want := answerTo(r, q)
		room = append(laidReply(want), 0xAA, 0x55)
		kept = bytes.Clone(room)
		reply, e := OpenReply(q, room[:len(room)-2])
		if e != api.OK || !bytes.Equal(room, kept) {
			t.Fatalf("P3.4: Fn %d: %v, or changed", q.Fn, e)
		}
		Reply(want)
		Pack(q.Bits)
		if !slices.Equal(bits, keptBits) || !slices.Equal(regs, keptRegs) {
			t.Fatalf("P3.1: Fn %d: changed", q.Fn)
		}
		clear(room)
		clear(bits)
		clear(regs)
		if !sameReply(reply, want) {
			t.Fatalf("P3.4: Fn %d: the answer is an argument's memory", q.Fn)
		}
	}
}

// What holds everywhere: the same arguments, the same answers, and each answer
// new memory.
func TestAnswersAreNew(t *testing.T) {
	q := api.Request{Fn: 16, Addr: 1, Regs: []uint16{2, 3}}
	first, _ := Request(q)
	clear(first)
	second, _ := Request(q)
	if !bytes.Equal(second, laidRequest(q)) {
		t.Errorf("P3.1: %x", second)
	}
	want := api.Reply{Fn: 1, Exc: 2}
	first, _ = Reply(want)
	clear(first)
	if second, _ = Reply(want); !bytes.Equal(second, laidReply(want)) {
		t.Errorf("P3.3: %x", second)
	}
}
