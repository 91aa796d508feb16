package models

import (
	"strings"

	"linear/api"
)

// comma stands between each two numbers of a queue's text.
const comma = ","

// Queue is the model `queue`. Its state is the text itself: a slice could not be compared.
type Queue struct{}

// Parse: see Model.
func (Queue) Parse(text string) (string, bool) {
	if text == "" {
		return "", true
	}
	for number := range strings.SplitSeq(text, comma) {
		if _, ok := parseDecimal(number); !ok {
			return "", false
		}
	}
	return text, true
}

// Text: see Model. It is a copy, since Do may answer a piece of the state that it was given.
func (Queue) Text(state string) string { return strings.Clone(state) }

// Do: see Model.
func (Queue) Do(state string, op api.Op) (string, api.Value) {
	switch op.Name {
	case "enq":
		if state == "" {
			return decimal(op.Arg), api.Value{}
		}
		return state + comma + decimal(op.Arg), api.Value{}
	case "deq":
		first, rest, _ := strings.Cut(state, comma)
		if n, ok := parseDecimal(first); ok {
			return rest, ofNumber(n)
		}
	}
	return state, api.Value{}
}
