package fb

import "math"

// upCounter: CTU (CU, R, PV; Q, CV).
type upCounter struct{}

func (upCounter) step(c *call) {
	up, reset, preset, count := c.rises(0), c.on(1), c.in[2], c.out[1]
	switch {
	case reset:
		count = 0
	case up:
		count = oneMore(count)
	}
	c.out[0], c.out[1] = bit(count >= preset), count
	c.hold(0)
}

// downCounter: CTD (CD, LD, PV; Q, CV).
type downCounter struct{}

func (downCounter) step(c *call) {
	down, load, preset, count := c.rises(0), c.on(1), c.in[2], c.out[1]
	switch {
	case load:
		count = preset
	case down:
		count = oneLess(count)
	}
	c.out[0], c.out[1] = bit(count <= 0), count
	c.hold(0)
}

// upDownCounter: CTUD (CU, CD, R, LD, PV; QU, QD, CV).
type upDownCounter struct{}

func (upDownCounter) step(c *call) {
	up, down := c.rises(0), c.rises(1)
	reset, load, preset, count := c.on(2), c.on(3), c.in[4], c.out[2]
	switch {
	case reset:
		count = 0
	case load:
		count = preset
	case up && !down:
		count = oneMore(count)
	case down && !up:
		count = oneLess(count)
	}
	c.out[0], c.out[1], c.out[2] = bit(count >= preset), bit(count <= 0), count
	c.hold(0)
	c.hold(1)
}

// oneMore and oneLess stay at the ends of INT's range: a count doesn't wrap.
func oneMore(count int64) int64 { return min(count+1, math.MaxInt16) }

func oneLess(count int64) int64 { return max(count-1, math.MinInt16) }
