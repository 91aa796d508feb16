package search

import (
	"slices"
	"testing"

	"linear/api"
	"linear/models"
)

// tally is a model of the tests' own, whose state is an array: `up` gives how often it has been done by that client, `pass` nothing.
type tally struct{}

func (tally) Parse(string) ([3]int64, bool) { return [3]int64{}, false }

func (tally) Text([3]int64) string { return "" }

func (tally) Do(state [3]int64, op api.Op) ([3]int64, api.Value) {
	if op.Name == "pass" {
		return state, api.Value{}
	}
	state[op.By]++
	return state, api.Value{Kind: api.Int, N: state[op.By]}
}

func up(id, by int64, call, ret int, saw int64) api.Op {
	return api.Op{ID: id, By: by, Name: "up", Call: call, Ret: ret, Val: api.Value{Kind: api.Int, N: saw}}
}

func pass(id int64, call, ret int) api.Op {
	return api.Op{ID: id, Name: "pass", Call: call, Ret: ret}
}

func ids(ops []api.Op) []int64 {
	list := []int64{}
	for _, op := range ops {
		list = append(list, op.ID)
	}
	return list
}

func expectFound(t *testing.T, part []api.Op, budget int, verdict Verdict, order ...int64) Outcome {
	t.Helper()
	got := Part(tally{}, part, budget)
	if got.Verdict != verdict || !slices.Equal(ids(got.Order), order) {
		t.Errorf("of %+v: %d, %v, want %d, %v", part, got.Verdict, ids(got.Order), verdict, order)
	}
	return got
}

func TestPart(t *testing.T) {
	expectFound(t, nil, 0, Linearizable)
	expectFound(t, []api.Op{up(1, 0, 1, 2, 1)}, 100, Linearizable, 1)
	expectFound(t, []api.Op{up(1, 0, 1, 2, 2)}, 100, Illegal)
	expectFound(t, []api.Op{up(1, 0, 1, 0, 0)}, 0, Linearizable)
	expectFound(t, []api.Op{up(1, 0, 1, 4, 2), up(2, 0, 2, 3, 1)}, 100, Linearizable, 2, 1)
	expectFound(t, []api.Op{up(1, 0, 1, 4, 1), up(2, 0, 2, 3, 2)}, 100, Linearizable, 1, 2)
	expectFound(t, []api.Op{up(1, 0, 1, 2, 2), up(2, 0, 3, 4, 1)}, 100, Illegal)
	expectFound(t, []api.Op{up(1, 0, 1, 0, 0), up(2, 0, 2, 3, 2)}, 100, Linearizable, 1, 2)
	expectFound(t, []api.Op{up(1, 0, 1, 0, 0), up(2, 1, 2, 3, 2)}, 100, Illegal, 1)
	expectFound(t, []api.Op{up(1, 0, 1, 2, 1), up(2, 0, 3, 4, 2), up(3, 0, 5, 6, 4), up(4, 1, 7, 8, 1)}, 100, Illegal, 1, 2)
	expectFound(t, []api.Op{up(1, 0, 1, 2, 1), pass(2, 3, 4), up(3, 0, 5, 6, 3), pass(4, 7, 0)}, 100, Illegal, 1, 2)
}

// Only what returns at a line ahead of a call has to come before it.
func TestPartAsksWhoIsAhead(t *testing.T) {
	for ret := 2; ret < 8; ret++ {
		part := []api.Op{up(1, 0, 1, ret, 2), up(2, 0, 5, 9, 1)}
		if ret < 5 {
			expectFound(t, part, 100, Illegal)
		} else {
			expectFound(t, part, 100, Linearizable, 2, 1)
		}
	}
}

// Two ways to one set of operations and one state are one configuration: n that change nothing have 2^n sets, and n! ways.
func TestPartComesToEachConfigurationOnce(t *testing.T) {
	var part []api.Op
	for n := range 10 {
		part = append(part, pass(int64(n), n+1, 0))
	}
	part = append(part, up(10, 0, 11, 12, 7))
	const cost = 11 * 1024
	if got := expectFound(t, part, cost, Illegal, 0, 1, 2, 3, 4, 5, 6, 7, 8, 9); got.Left != 0 {
		t.Errorf("%d of %d is left", got.Left, cost)
	}
	if got := expectFound(t, part, cost+5, Illegal, 0, 1, 2, 3, 4, 5, 6, 7, 8, 9); got.Left != 5 {
		t.Errorf("%d of %d is left", got.Left, cost+5)
	}
	if got := expectFound(t, part, cost-1, Unknown); got.Left != 0 {
		t.Errorf("%d is left of what was not enough", got.Left)
	}
}

// One set of operations with two states is two configurations.
func TestPartTellsStatesApart(t *testing.T) {
	part := []api.Op{
		{ID: 1, Name: "write", Arg: 1, Call: 1, Ret: 3},
		{ID: 2, Name: "write", Arg: 2, Call: 2, Ret: 4},
		{ID: 3, Name: "read", Call: 5, Ret: 6, Val: api.Value{Kind: api.Int, N: 1}},
	}
	for saw, order := range map[int64][]int64{1: {2, 1, 3}, 2: {1, 2, 3}} {
		part[2].Val.N = saw
		if got := Part(models.Register{}, part, 100); got.Verdict != Linearizable || !slices.Equal(ids(got.Order), order) {
			t.Errorf("a read of %d: %d, %v", saw, got.Verdict, ids(got.Order))
		}
	}
}

func TestPartWithoutBudget(t *testing.T) {
	for _, budget := range []int{-1 << 63, -1, 0} {
		if got := Part(tally{}, []api.Op{up(1, 0, 1, 2, 1)}, budget); got.Verdict != Unknown || got.Order != nil || got.Left != 0 {
			t.Errorf("with %d: %+v", budget, got)
		}
	}
	if got := Part(tally{}, []api.Op{up(1, 0, 1, 2, 1)}, 1); got.Verdict != Linearizable || got.Left != 0 {
		t.Errorf("with 1: %+v", got)
	}
}

// The pending ones are needed only if what others saw needs them.
func TestPartTriesPendingLast(t *testing.T) {
	var part []api.Op
	for n := range 100 {
		part = append(part, up(int64(n), 0, n+1, 0, 0))
	}
	part = append(part, up(100, 1, 101, 102, 1), up(101, 1, 103, 104, 2))
	expectFound(t, part, 1000, Linearizable, 100, 101)
}

func TestPartKeepsWhatItIsGiven(t *testing.T) {
	part := []api.Op{up(1, 0, 1, 0, 0), up(2, 0, 2, 5, 2), up(3, 1, 3, 4, 1)}
	before := slices.Clone(part)
	got := expectFound(t, part, 100, Linearizable, 3, 1, 2)
	clear(got.Order)
	if !slices.Equal(part, before) {
		t.Errorf("%+v is now %+v", before, part)
	}
}

func TestGroup(t *testing.T) {
	var all group
	for place := range api.MaxEvents {
		one := group{}.with(place)
		for other := range api.MaxEvents {
			if one.has(other) != (other == place) || all.has(other) != (other < place) {
				t.Fatalf("%d with %d", place, other)
			}
			if two := (group{}).with(other); one.within(two) != (one == two) || !one.within(two.with(place)) || !two.within(one.with(other)) {
				t.Fatalf("%d within %d", place, other)
			}
		}
		if one.within(all) || all.within(one) != (place == 0) || !(group{}).within(one) || all.with(place) == all {
			t.Fatalf("%d is not one more", place)
		}
		all = all.with(place)
		if all.with(place) != all || !one.within(all) || one.within(group{}) {
			t.Fatalf("%d is in", place)
		}
	}
}
