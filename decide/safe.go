package decide

import (
	"latchwork/api"
	"latchwork/prove"
)

// safeBy the fewest steps by which a model is safe, if these are at most so many, and it is known, for all fewer ones too, whether it is safe by them.
func safeBy(m api.Model, steps, fuel int) (by int, is bool) {
	// What is safe by some steps is safe by more, so that one answer does where it is safe by none.
	if safe, e := prove.Prove(m, steps, fuel); e == api.OK && !safe {
		return 0, false
	}
	for by = 1; by <= steps; by++ {
		safe, e := prove.Prove(m, by, fuel)
		if e != api.OK {
			break
		}
		if safe {
			return by, true
		}
	}
	return 0, false
}
