package parts

import (
	"fmt"
	"math/rand/v2"
	"reflect"
	"slices"
	"testing"

	"linear/api"
)

func TestWhole(t *testing.T) {
	ops := []api.Op{{ID: 1, Key: "b"}, {ID: 2, Key: "a"}, {ID: 3}}
	if got := Whole(ops); !reflect.DeepEqual(got, []Part{{"-", ops}}) {
		t.Errorf("%+v", got)
	}
	if got := Whole(nil); len(got) != 1 || got[0].Name != "-" || len(got[0].Ops) != 0 {
		t.Errorf("of nothing: %+v", got)
	}
}

func TestByKey(t *testing.T) {
	a1, a2, b1, b2, none, accent := api.Op{ID: 1, Key: "a"}, api.Op{ID: -2, Key: "a"}, api.Op{ID: 3, Key: "b"}, api.Op{ID: 4, Key: "b"}, api.Op{ID: 5}, api.Op{ID: 6, Key: "é"}
	want := []Part{{`""`, []api.Op{none}}, {`"a"`, []api.Op{a1, a2}}, {`"b"`, []api.Op{b2, b1}}, {`"é"`, []api.Op{accent}}}
	ops := []api.Op{accent, b2, a1, b1, none, a2}
	before := slices.Clone(ops)
	for range 50 { // the order in which a map is gone through is not the same each time
		got := ByKey(ops)
		if !reflect.DeepEqual(got, want) {
			t.Fatalf("%+v, want %+v", got, want)
		}
		for _, part := range got {
			clear(part.Ops)
		}
		if !slices.Equal(ops, before) {
			t.Fatalf("%+v is now %+v", before, ops)
		}
	}
	if got := ByKey(nil); len(got) != 0 {
		t.Errorf("of nothing: %+v", got)
	}
}

func TestQuoted(t *testing.T) {
	for key, want := range map[string]string{
		``: `""`, `a`: `"a"`, `"`: `"\""`, `\`: `"\\"`, `\"`: `"\\\""`, `\u0041`: `"\\u0041"`, `/`: `"/"`, "é😀": `"é😀"`,
		"\x00\x01\x09\x0a\x0f\x10\x1a\x1f\x20": `"\u0000\u0001\u0009\u000a\u000f\u0010\u001a\u001f "`,
		"\x7f\u0080\u2028":                     "\"\x7f\u0080\u2028\"",
	} {
		if got := quoted(key); got != want {
			t.Errorf("%q: %s, want %s", key, got, want)
		}
	}
}

func ids(ops []api.Op) []int64 {
	list := []int64{}
	for _, op := range ops {
		list = append(list, op.ID)
	}
	return list
}

func expectMerged(t *testing.T, lists [][]api.Op, want ...int64) {
	t.Helper()
	if got := Merge(lists); !slices.Equal(ids(got), want) {
		t.Errorf("of %+v: %v, want %v", lists, ids(got), want)
	}
}

func TestMerge(t *testing.T) {
	expectMerged(t, nil)
	expectMerged(t, [][]api.Op{nil, {}, nil})
	long, short, late := api.Op{ID: 1, Call: 1, Ret: 6}, api.Op{ID: 2, Call: 2, Ret: 3}, api.Op{ID: 3, Call: 4, Ret: 5}
	expectMerged(t, [][]api.Op{{short, late}, nil}, 2, 3)
	expectMerged(t, [][]api.Op{{late}, {short}}, 2, 3)
	expectMerged(t, [][]api.Op{{late, long}, {short}}, 2, 3, 1)
	expectMerged(t, [][]api.Op{{short}, {late, long}}, 2, 3, 1)
	pending := api.Op{ID: 4, Call: 1}
	expectMerged(t, [][]api.Op{{late, pending}, {short}}, 2, 3, 4)
}

// Lists that were cut out of one order in which things happened go together to some such order again.
func TestMergeOfMany(t *testing.T) {
	r := rand.New(rand.NewPCG(1, 2))
	for range 2000 {
		lists := make([][]api.Op, 1+r.IntN(4))
		for _, op := range happened(r, 1+r.IntN(12)) {
			at := r.IntN(len(lists))
			lists[at] = append(lists[at], op)
		}
		if why := mergeFault(lists, Merge(lists)); why != "" {
			t.Fatalf("of %+v: %s", lists, why)
		}
	}
}

// happened makes operations in the order in which they happened, each between its call and its return; some have not returned.
func happened(r *rand.Rand, count int) []api.Op {
	type event struct{ at, of, what int }
	const call, ret = 0, 1
	var events []event
	for n := range count {
		moment := n * 100
		events = append(events, event{moment - 1 - r.IntN(500), n, call})
		if r.IntN(5) > 0 {
			events = append(events, event{moment + 1 + r.IntN(500), n, ret})
		}
	}
	slices.SortStableFunc(events, func(a, b event) int { return a.at - b.at })
	ops := make([]api.Op, count)
	for i, e := range events {
		ops[e.of].ID = int64(e.of)
		if e.what == call {
			ops[e.of].Call = i + 1
		} else {
			ops[e.of].Ret = i + 1
		}
	}
	return ops
}

// mergeFault tells what is wrong with an order that the lists are to go together to.
func mergeFault(lists [][]api.Op, order []api.Op) string {
	count := 0
	for _, list := range lists {
		count += len(list)
		last := -1
		for _, op := range list {
			at := slices.Index(order, op)
			if at <= last {
				return fmt.Sprintf("%v does not keep the order of %v", ids(order), ids(list))
			}
			last = at
		}
	}
	if len(order) != count {
		return fmt.Sprintf("%v are not %d", ids(order), count)
	}
	for i, op := range order {
		for _, before := range order[:i] {
			if op.Ret != 0 && op.Ret < before.Call {
				return fmt.Sprintf("in %v %d is ahead of %d", ids(order), op.ID, before.ID)
			}
		}
	}
	return ""
}
