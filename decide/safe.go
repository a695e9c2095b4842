package decide

import (
	"latchwork/apart"
	"latchwork/api"
)

// farBy: the fewest steps, of at most so many, by which one can't approach what is bad, if they are known. If there is no bad trace of fewer steps, the model is safe by these. (Prove would look for such a trace each time it is asked.)
func farBy(c api.Circuit, steps, fuel int) (by int, known bool) {
	approach := func(n int) int { return apart.Approach(c, n, fuel) }
	// Whoever approaches by some steps does by fewer, too, so that not all need be asked for.
	near, by := 0, 1
	verdict := approach(by)
	for verdict == api.VerdictYes && by < steps {
		near, by = by, min(2*by, steps)
		verdict = approach(by)
	}
	for n := near + 1; n < by; n++ {
		switch approach(n) {
		case api.VerdictNo:
			return n, true
		case api.VerdictUnknown:
			return 0, false
		}
	}
	return by, verdict == api.VerdictNo
}
