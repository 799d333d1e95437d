package fixed

import (
	"sort"

	"cupel/api"
)

// noPower is the number from which on downward Exp is 0.
const noPower = -1 << 20

// expSteps is, from place 19 of a number's bits down to place 0, what that bit alone makes of one.
var expSteps = [20]int{
	22, 1200, 8869, 24109, 39750, 51039, 57835, 61565, 63520, 64520,
	65026, 65280, 65408, 65472, 65504, 65520, 65528, 65532, 65534, 65535,
}

// Root is the square root of a number.
func Root(n int) (int, api.Errno) {
	if check(n) != api.OK || n < 0 {
		return 0, api.ErrRange
	}
	// The square of 2^24 is beyond all of these, and that of 0 beyond none.
	above := sort.Search(1<<24, func(r int) bool { return r*r > n*api.One })
	return above - 1, api.OK
}

// Exp is e to the power of a number that is not above 0.
func Exp(n int) (int, api.Errno) {
	if n > 0 {
		return 0, api.ErrRange
	}
	return power(n), api.OK
}

// power is Exp of a number that is known not to be above 0.
func power(n int) int {
	if n <= noPower {
		return 0
	}
	p, rest := api.One, -n
steps:
	for i, step := range expSteps {
		bit := 1 << (len(expSteps) - 1 - i)
		switch {
		case rest == 0:
			break steps
		case rest < bit:
			continue steps
		}
		rest -= bit
		p = scaled(p * step)
	}
	return p
}

// Gate is a number times its sigmoid.
func Gate(n int) (int, api.Errno) {
	if e := check(n); e != api.OK {
		return 0, e
	}
	share := api.One * api.One / (api.One + power(min(n, -n)))
	if n < 0 {
		share = api.One - share
	}
	return Mul(n, share)
}
