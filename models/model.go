package models

import (
	"strconv"

	"linear/api"
)

// Model is the constraint that each kind of shared thing satisfies; S is the type of its state.
// The zero value of S is the first state, and one state is one value of S: two are the same just if they are equal.
type Model[S comparable] interface {
	// Parse tells the state of that text; or false, if it is the text of none.
	Parse(text string) (S, bool)
	// Text tells a state as a text.
	Text(state S) string
	// Do does an operation of the model: the state behind it, and what it gives.
	Do(state S, op api.Op) (S, api.Value)
}

// Apply does an operation of the model on the state of that text; false, if it is the text of none.
func Apply[S comparable, M Model[S]](model M, text string, op api.Op) (string, api.Value, bool) {
	state, ok := model.Parse(text)
	if !ok {
		return "", api.Value{}, false
	}
	next, val := model.Do(state, op)
	return model.Text(next), val, true
}

func ofNumber(n int64) api.Value {
	return api.Value{Kind: api.Int, N: n}
}

func ofTruth(is bool) api.Value {
	if is {
		return api.Value{Kind: api.Bool, N: 1}
	}
	return api.Value{Kind: api.Bool}
}

func decimal(n int64) string {
	return strconv.FormatInt(n, 10)
}

// parseDecimal takes a number only as it is told: ParseInt takes `+1`, `-0` and `01` too.
func parseDecimal(text string) (int64, bool) {
	n, err := strconv.ParseInt(text, 10, 64)
	if err != nil || decimal(n) != text {
		return 0, false
	}
	return n, true
}
