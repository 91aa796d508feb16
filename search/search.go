// Package search looks for an order of the operations of one part of a history by which everybody saw what was seen.
package search

import (
	"cmp"
	"slices"

	"linear/api"
	"linear/models"
)

// Verdict is what is known of a part.
type Verdict int

// The verdicts: Unknown, if the budget was not enough.
const (
	Unknown Verdict = iota
	Linearizable
	Illegal
)

// Outcome is what a search has found.
type Outcome struct {
	Verdict Verdict
	// Order is a linearization, if there is one; else a partial one than which none is longer; nothing, if that is unknown.
	Order []api.Op
	// Left is what is left of the budget.
	Left int
}

// configuration is how far one has come: which operations are done, and the state that they have led to.
type configuration[S comparable] struct {
	done  group
	state S
}

// step is an operation that was done, and where.
type step[S comparable] struct {
	from  configuration[S]
	place int
}

// Part searches the operations of one part, at most api.MaxEvents.
// Whenever it looks at an operation, that costs 1 of the budget. It comes to each configuration
// but once, and looks at each operation there but once: more than the operations, times the configurations, it never costs.
func Part[S comparable, M models.Model[S]](model M, part []api.Op, budget int) Outcome {
	ops := byReturn(part)
	ahead, must := aheadOfEach(ops), returned(ops)
	seen := map[configuration[S]]int{} // how often one has come there
	var here configuration[S]
	var way []step[S]
	var longest []api.Op
	place := 0

forth:
	if must.within(here.done) {
		return Outcome{Linearizable, taken(ops, way), budget}
	}
	if len(way) > len(longest) {
		longest = taken(ops, way)
	}
	place = 0

back:
	for ; place < len(ops); place++ {
		if budget <= 0 {
			return Outcome{}
		}
		budget--
		if here.done.has(place) || !ahead[place].within(here.done) {
			continue
		}
		state, val := model.Do(here.state, ops[place])
		if !pending(ops[place]) && val != ops[place].Val {
			continue
		}
		there := configuration[S]{here.done.with(place), state}
		seen[there]++
		if seen[there] == 1 {
			way = append(way, step[S]{here, place})
			here = there
			goto forth
		}
	}
	if len(way) == 0 {
		return Outcome{Illegal, longest, budget}
	}
	last := way[len(way)-1]
	way = way[:len(way)-1]
	here, place = last.from, last.place+1
	goto back
}

// byReturn puts those first that must come first, and the pending ones, which need not come at all, last:
// so the search seldom goes far the wrong way.
func byReturn(part []api.Op) []api.Op {
	ops := slices.Clone(part)
	slices.SortStableFunc(ops, func(a, b api.Op) int { return cmp.Compare(deadline(a), deadline(b)) })
	return ops
}

func deadline(op api.Op) int {
	if pending(op) {
		return api.MaxEvents + 1
	}
	return op.Ret
}

// taken tells the operations of a way, in its order.
func taken[S comparable](ops []api.Op, way []step[S]) []api.Op {
	list := make([]api.Op, 0, len(way))
	for _, s := range way {
		list = append(list, ops[s.place])
	}
	return list
}
