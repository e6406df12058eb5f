package outbox

// count is how many there are of what there may be only so many of.
type count struct{ many, most int }

// upTo is a count of nothing yet.
func upTo(most int) count { return count{most: max(most, 0)} }

// add lets there be n more, if so many more may be.
func (c *count) add(n int) bool {
	// What is left is taken, and not the sum, which may be too great for a number.
	if n > c.most-c.many {
		return false
	}
	c.many += n
	return true
}

// flight counts bytes that were sent, and of which nobody told yet that they have gone.
type flight struct{ count }

// Gone says that bytes have gone, and is how many are in flight still.
func (f *flight) Gone(n int) int {
	f.many -= min(max(n, 0), f.many)
	return f.many
}

// Flying is how many bytes are in flight.
func (f *flight) Flying() int { return f.many }

// asks counts requests since the last tick.
type asks struct{ count }

// Ask lets one request more come, if it may.
func (a *asks) Ask() bool { return a.add(1) }

// Asked is how many requests came since the last tick.
func (a *asks) Asked() int { return a.many }

// Tick is a tick: no request came since.
func (a *asks) Tick() { a.many = 0 }
