package parts

import (
	"cmp"
	"slices"

	"linear/api"
)

// happening is an operation, and a line at which it may be thought to have happened.
type happening struct {
	line int
	op   api.Op
}

// Merge lays linearizations, one of each part, together into one order that keeps each of them,
// and in which whatever is ahead of another, of whichever parts they are, stands before it.
func Merge(linearizations [][]api.Op) []api.Op {
	var all []happening
	for _, list := range linearizations {
		all = append(all, happenings(list)...)
	}
	// Only those of one part share a line, and they stand in its order already.
	slices.SortStableFunc(all, func(a, b happening) int { return cmp.Compare(a.line, b.line) })
	order := make([]api.Op, 0, len(all))
	for _, h := range all {
		order = append(order, h.op)
	}
	return order
}

// happenings lets each operation of a linearization happen as soon as it and all before it are called.
// That is ahead of its return: had it returned ahead of the call of one before it, it would have to stand before that one.
func happenings(linearization []api.Op) []happening {
	var list []happening
	line := 0
	for _, op := range linearization {
		line = max(line, op.Call)
		list = append(list, happening{line, op})
	}
	return list
}
