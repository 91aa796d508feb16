package models

import "linear/api"

// Register is the model `register`.
type Register struct{}

// Parse: see Model.
func (Register) Parse(text string) (int64, bool) { return parseDecimal(text) }

// Text: see Model.
func (Register) Text(state int64) string { return decimal(state) }

// Do: see Model.
func (Register) Do(state int64, op api.Op) (int64, api.Value) {
	switch op.Name {
	case "read":
		return state, ofNumber(state)
	case "write":
		return op.Arg, api.Value{}
	case "cas":
		if state == op.Exp {
			return op.Arg, ofTruth(true)
		}
		return state, ofTruth(false)
	}
	return state, api.Value{}
}
