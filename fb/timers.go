package fb

import "rung/api"

// Of all timers (IN, PT; Q, ET) keep[0] is IN, keep[1] the time of the edge that
// it counts from, and keep[2] one of these.
const (
	idle   = iota
	active // of TON: its time has passed; of TOF, TP: it runs
	spent  // of TP: its time has passed, but IN is still true
)

// onDelay: TON: Q rises when IN has been true for PT.
type onDelay struct{}

func (onDelay) step(c *call) {
	if c.rises(0) {
		c.begin(idle)
	}
	switch {
	case !c.on(0):
		c.tell(false, 0)
		c.keep[2] = idle
	case c.keep[2] == active:
		c.tell(true, c.preset())
	default:
		c.wait()
	}
	c.hold(0)
}

// wait tells a TON that counts. That its time has passed is kept, since the
// clock's numbers come round again.
func (c *call) wait() {
	over := c.elapsed() >= c.preset()
	c.tell(over, c.elapsed())
	c.keep[2] = idle
	if over {
		c.keep[2] = active
	}
}

// offDelay: TOF: Q falls when IN has been false for PT.
type offDelay struct{}

func (offDelay) step(c *call) {
	if c.falls(0) {
		c.begin(active)
	}
	switch {
	case c.on(0):
		c.tell(true, 0)
		c.keep[2] = idle
	case c.keep[2] != idle:
		c.last(idle)
	default:
		c.tell(false, c.out[1])
	}
	c.hold(0)
}

// pulse: TP: Q rises with IN, and falls when PT has passed.
type pulse struct{}

func (pulse) step(c *call) {
	if c.keep[2] != active && c.rises(0) {
		c.begin(active)
	}
	if c.keep[2] == active {
		c.last(spent)
	} else {
		c.tell(false, c.out[1])
	}
	if c.keep[2] != active && !c.on(0) {
		c.tell(false, 0)
		c.keep[2] = idle
	}
	c.hold(0)
}

// begin lets a timer count from now on.
func (c *call) begin(phase int64) { c.keep[1], c.keep[2] = c.now, phase }

// last tells a timer whose Q lasts till PT has passed, and is in another phase
// then.
func (c *call) last(next int64) {
	lasts := c.elapsed() < c.preset()
	c.tell(lasts, c.elapsed())
	if !lasts {
		c.keep[2] = next
	}
}

func (c *call) tell(q bool, et int64) { c.out[0], c.out[1] = bit(q), et }

// preset tells PT: none is below 0.
func (c *call) preset() int64 { return max(c.in[1], 0) }

// elapsed tells the time since the edge, up to PT. The difference is wrapped, so
// that it is right over the clock's wrap-round, too.
func (c *call) elapsed() int64 {
	since := wrap(api.KDint, c.now-c.keep[1])
	return min(max(since, 0), c.preset())
}
