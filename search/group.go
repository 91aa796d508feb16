package search

import "linear/api"

// wordBits is how many operations one word of a group has room for.
const wordBits = 64

// group is a set of operations, one bit for each, by its place in a list.
// A history has no more operations than lines, so there is room for all.
type group [(api.MaxEvents + wordBits - 1) / wordBits]uint64

func (g group) has(place int) bool {
	return g[place/wordBits]>>(place%wordBits)&1 != 0
}

func (g group) with(place int) group {
	g[place/wordBits] |= 1 << (place % wordBits)
	return g
}

func (g group) within(other group) bool {
	for i, word := range g {
		if word&^other[i] != 0 {
			return false
		}
	}
	return true
}

// returned tells which operations are not pending.
func returned(ops []api.Op) group {
	var all group
	for place, op := range ops {
		if !pending(op) {
			all = all.with(place)
		}
	}
	return all
}

// aheadOfEach tells for each operation which ones are ahead of it.
func aheadOfEach(ops []api.Op) []group {
	all := make([]group, len(ops))
	for place, op := range ops {
		for other, first := range ops {
			if !pending(first) && first.Ret < op.Call {
				all[place] = all[place].with(other)
			}
		}
	}
	return all
}

func pending(op api.Op) bool { return op.Ret == 0 }
