// Package history reads the text of a history into its operations, or tells why it is refused.
package history

import (
	"strings"

	"linear/api"
	"linear/models"
	"linear/object"
)

// record is what has been read so far.
type record struct {
	model string
	ops   []api.Op
	byID  map[int64]int // where in ops each id stands
	open  map[int64]int // how many operations of each client have not returned
}

// Read reads a history of a model that is known. At the first line that breaks a rule it tells
// the line's number and the reason, and no operations.
func Read(text, model string) ([]api.Op, int, api.Reason) {
	r := record{model: model, byID: map[int64]int{}, open: map[int64]int{}}
	for number := 1; text != ""; number++ {
		if number > api.MaxEvents {
			return nil, number, api.Many
		}
		line, rest, _ := strings.Cut(text, "\n")
		if why := r.add(line, number); why != api.None {
			return nil, number, why
		}
		text = rest
	}
	return r.ops, 0, api.None
}

// add asks the rules in the order of their reasons' numbers, so that the least one is told.
func (r *record) add(line string, number int) api.Reason {
	list, ok := object.Read(line)
	if !ok {
		return api.Text
	}
	members, ok := byName(list)
	switch {
	case !ok:
		return api.Members
	case fits(members, callShape()):
		return r.addCall(members, number)
	case fits(members, returnShape()):
		return r.addReturn(members, number)
	}
	return api.Members
}

func (r *record) addCall(members map[string]object.Value, number int) api.Reason {
	op := api.Op{
		ID:   members["call"].N,
		By:   members["by"].N,
		Name: members["op"].Text,
		Key:  members["key"].Text,
		Arg:  members["arg"].N,
		Exp:  members["exp"].N,
		Call: number,
	}
	operation, ok := models.Find(r.model, op.Name)
	if !ok || operation.Needs != having(members) {
		return api.Operation
	}
	if _, reused := r.byID[op.ID]; reused {
		return api.Reused
	}
	if r.open[op.By] > 0 {
		return api.Busy
	}
	r.byID[op.ID] = len(r.ops)
	r.open[op.By]++
	r.ops = append(r.ops, op)
	return api.None
}

func (r *record) addReturn(members map[string]object.Value, number int) api.Reason {
	at, called := r.byID[members["ret"].N]
	if !called || r.ops[at].Ret != 0 {
		return api.NotOpen
	}
	op := r.ops[at]
	operation, _ := models.Find(r.model, op.Name)
	val := members["val"].Value
	if !operation.MayGive(val.Kind) {
		return api.BadValue
	}
	r.ops[at].Ret = number
	r.ops[at].Val = val
	r.open[op.By]--
	return api.None
}
