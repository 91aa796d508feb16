package models

import "linear/api"

// Lock is the model `lock`; its state is the client that holds it, if one does.
type Lock struct{}

// Parse: see Model.
func (Lock) Parse(text string) (Perhaps, bool) { return parsePerhaps(text) }

// Text: see Model.
func (Lock) Text(state Perhaps) string { return state.text() }

// Do: see Model.
func (Lock) Do(state Perhaps, op api.Op) (Perhaps, api.Value) {
	client := Perhaps{There: true, N: op.By}
	switch op.Name {
	case "acq":
		if !state.There {
			return client, ofTruth(true)
		}
		return state, ofTruth(false)
	case "rel":
		if state == client {
			return Perhaps{}, ofTruth(true)
		}
		return state, ofTruth(false)
	}
	return state, api.Value{}
}
