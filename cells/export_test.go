package cells

import "ogive/api"

// From is from, for the tests: hardly any closeness has a cell that begins just below 2^63, or just there.
func From(low uint64, a api.Ratio) (uint64, uint64) {
	c := from(low, a)
	return c.end, c.rep
}
