package curve

import "afterimage/fix"

// pair is something that counts, and how much of it does.
type pair struct {
	weight, of int64
}

// added is a number and what counts of each pair. They are added one by one, in their order: as each sum stops, the order is to be seen.
func added(to int64, pairs ...pair) int64 {
	for _, p := range pairs {
		to = fix.Add(to, fix.Mul(p.weight, p.of))
	}
	return to
}
