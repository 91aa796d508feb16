package models

import "linear/api"

// Store is the model `kv`; its state is that of one key.
type Store struct{}

// Parse: see Model.
func (Store) Parse(text string) (Perhaps, bool) { return parsePerhaps(text) }

// Text: see Model.
func (Store) Text(state Perhaps) string { return state.text() }

// Do: see Model.
func (Store) Do(state Perhaps, op api.Op) (Perhaps, api.Value) {
	switch op.Name {
	case "get":
		if state.There {
			return state, ofNumber(state.N)
		}
	case "put":
		return Perhaps{There: true, N: op.Arg}, api.Value{}
	case "del":
		return Perhaps{}, ofTruth(state.There)
	}
	return state, api.Value{}
}
