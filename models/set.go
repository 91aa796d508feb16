package models

import "linear/api"

// The texts of a set's state.
const (
	in  = "1"
	out = "0"
)

// Set is the model `set`; its state is whether one key is in.
type Set struct{}

// Parse: see Model.
func (Set) Parse(text string) (bool, bool) { return text == in, text == in || text == out }

// Text: see Model.
func (Set) Text(state bool) string {
	if state {
		return in
	}
	return out
}

// Do: see Model.
func (Set) Do(state bool, op api.Op) (bool, api.Value) {
	switch op.Name {
	case "add":
		return true, ofTruth(!state)
	case "rem":
		return false, ofTruth(state)
	case "has":
		return state, ofTruth(state)
	}
	return state, api.Value{}
}
