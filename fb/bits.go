package fb

// risingEdge: R_TRIG (CLK; Q).
type risingEdge struct{}

func (risingEdge) step(c *call) {
	c.out[0] = bit(c.rises(0))
	c.hold(0)
}

// fallingEdge: F_TRIG (CLK; Q).
type fallingEdge struct{}

func (fallingEdge) step(c *call) {
	c.out[0] = bit(c.falls(0))
	c.hold(0)
}

// setFirst: SR (S1, R; Q1): what sets it goes ahead of what resets it.
type setFirst struct{}

func (setFirst) step(c *call) {
	set, reset, was := c.on(0), c.on(1), c.out[0] != 0
	c.out[0] = bit(set || was && !reset)
}

// resetFirst: RS (S, R1; Q1): what resets it goes ahead of what sets it.
type resetFirst struct{}

func (resetFirst) step(c *call) {
	set, reset, was := c.on(0), c.on(1), c.out[0] != 0
	c.out[0] = bit(!reset && (set || was))
}
