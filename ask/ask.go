// Package ask is what the functions' layers have in common: what they may be asked, and how their answers are rounded.
package ask

import (
	"astrolabe/api"
	"astrolabe/dyad"
	"astrolabe/iv"
)

const minPrec = 2

// May is whether a function may be asked at x, of at most bits bits, to precision p, of at most maxPrec.
func May(x api.Dy, bits, p, maxPrec int) bool {
	size, _ := dyad.Size(x)
	return minPrec <= p && p <= maxPrec && dyad.Right(x) && size-x.E <= bits
}

// Answer is what c has reckoned, rounded outward to precision p; the first error of both calculators.
func Answer(c *iv.Calc, a api.Iv, p int) (api.Iv, api.Errno) {
	if c.Err() != api.OK {
		return api.Iv{}, c.Err()
	}
	return Round(a, p)
}

// Round is a, rounded outward to precision p.
func Round(a api.Iv, p int) (api.Iv, api.Errno) {
	c, e := iv.New(p)
	if e != api.OK {
		return api.Iv{}, e
	}
	a = c.Out(a)
	return a, c.Err()
}
