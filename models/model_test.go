package models

import (
	"testing"

	"linear/api"
)

// expectFirst holds what the constraint says of a model's states: the zero value is the first one, and one text is one value.
func expectFirst[S comparable, M Model[S]](t *testing.T, model M, first string, others ...string) {
	t.Helper()
	var zero S
	if text := model.Text(zero); text != first {
		t.Errorf("%T: the text of the first state is %q", model, text)
	}
	seen := map[S]string{}
	for _, text := range append(others, first) {
		state, ok := model.Parse(text)
		if !ok || model.Text(state) != text || (state == zero) != (text == first) {
			t.Errorf("%T: %q is read as %v, %v", model, text, state, ok)
		}
		if other, twice := seen[state]; twice {
			t.Errorf("%T: %q and %q are one state", model, text, other)
		}
		seen[state] = text
	}
}

func TestFirstStates(t *testing.T) {
	expectFirst(t, Register{}, "0", "1", "-1", "9223372036854775807", "-9223372036854775808")
	expectFirst(t, Store{}, "-", "0", "1", "-1", "9223372036854775807", "-9223372036854775808")
	expectFirst(t, Queue{}, "", "0", "1", "1,0", "0,1", "10", "-1", "9223372036854775807,-9223372036854775808")
	expectFirst(t, Set{}, "0", "1")
	expectFirst(t, Lock{}, "-", "0", "1", "-1", "9223372036854775807", "-9223372036854775808")
}

// expectSame holds that two ways to one state lead to one value, which a map of states leans on.
func expectSame[S comparable, M Model[S]](t *testing.T, model M, ops ...api.Op) {
	t.Helper()
	var state S
	for _, op := range ops {
		state, _ = model.Do(state, op)
	}
	if again, ok := model.Parse(model.Text(state)); !ok || again != state {
		t.Errorf("%T: after %+v the state is %+v, its text is read as %+v", model, ops, state, again)
	}
}

func TestOneStateIsOneValue(t *testing.T) {
	expectSame(t, Register{}, api.Op{Name: "write", Arg: 5}, api.Op{Name: "cas", Exp: 5})
	expectSame(t, Store{}, api.Op{Name: "put", Arg: 5}, api.Op{Name: "del"})
	expectSame(t, Store{}, api.Op{Name: "put"})
	expectSame(t, Queue{}, api.Op{Name: "enq", Arg: 5}, api.Op{Name: "deq"})
	expectSame(t, Queue{}, api.Op{Name: "enq", Arg: -5}, api.Op{Name: "enq", Arg: 6}, api.Op{Name: "deq"})
	expectSame(t, Set{}, api.Op{Name: "add"}, api.Op{Name: "rem"})
	expectSame(t, Lock{}, api.Op{Name: "acq", By: 5}, api.Op{Name: "rel", By: 5})
}

// A state that is no text of one answers nothing, and so does what is no operation: nothing panics.
func TestApplyOfNoState(t *testing.T) {
	if text, val, ok := Apply(Queue{}, "1,", api.Op{Name: "deq"}); ok || text != "" || val != (api.Value{}) {
		t.Errorf("%q, %v, %v", text, val, ok)
	}
	if text, val, ok := Apply(Lock{}, "", api.Op{Name: "acq"}); ok || text != "" || val != (api.Value{}) {
		t.Errorf("%q, %v, %v", text, val, ok)
	}
	if text, val, ok := Apply(Set{}, "1", api.Op{Name: "get"}); !ok || text != "1" || val != (api.Value{}) {
		t.Errorf("%q, %v, %v", text, val, ok)
	}
}
