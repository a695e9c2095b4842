package apart

import (
	"math/bits"

	"latchwork/api"
	"latchwork/chain"
)

// share of the fuel, a part of so many, that is spent on a try.
const share = 8

// Approach what is bad by so many steps whose states all differ: can that be? If it can't be by some steps, it can't be by more, since the last of these would do.
func Approach(c api.Circuit, steps, fuel int) (verdict int) {
	if bits.Len(uint(steps)) > c.States { // there are not as many states as steps and 1
		return api.VerdictNo
	}
	list, e := Clauses(c, steps)
	if e != api.OK { // there are too many to be searched
		return api.VerdictUnknown
	}
	verdict, _ = chain.Settle(c, steps, list, fuel)
	return verdict
}

// IsFar: is it shown, by a try, that what is bad can't be approached by so many steps? It is tried at 1 step, 2, 4 and so on: few, as what makes a search long is that many states must differ.
func IsFar(c api.Circuit, steps, fuel int) bool {
	return bits.OnesCount(uint(steps)) == 1 && Approach(c, steps, fuel/share) == api.VerdictNo
}
