// Package models knows the kinds of shared things: which operations each has, what these need and give, and what they do.
package models

import "linear/api"

// Members is a set of the members that only some calls have.
type Members uint8

// The members that only some calls have.
const (
	Key Members = 1 << iota
	Arg
	Exp
)

// Kinds is a set of kinds of values.
type Kinds uint8

const (
	nothing Kinds = 1 << api.Null
	number  Kinds = 1 << api.Int
	truth   Kinds = 1 << api.Bool
)

// Operation is one operation of one model: what its call must have, and what it may give.
type Operation struct {
	Model, Name string
	Needs       Members
	Gives       Kinds
}

var operations = [...]Operation{
	{"register", "read", 0, number},
	{"register", "write", Arg, nothing},
	{"register", "cas", Exp | Arg, truth},
	{"kv", "get", Key, number | nothing},
	{"kv", "put", Key | Arg, nothing},
	{"kv", "del", Key, truth},
	{"queue", "enq", Arg, nothing},
	{"queue", "deq", 0, number | nothing},
	{"set", "add", Key, truth},
	{"set", "rem", Key, truth},
	{"set", "has", Key, truth},
	{"lock", "acq", 0, truth},
	{"lock", "rel", 0, truth},
}

// Known says whether there is a model of that name.
func Known(model string) bool {
	for _, o := range operations {
		if o.Model == model {
			return true
		}
	}
	return false
}

// Find tells the operation of that name of that model; or false, if there is none.
func Find(model, name string) (Operation, bool) {
	for _, o := range operations {
		if o.Model == model && o.Name == name {
			return o, true
		}
	}
	return Operation{}, false
}

// MayGive says whether the operation ever gives a value of that kind.
func (o Operation) MayGive(kind int) bool {
	return kind >= api.Null && kind <= api.Bool && o.Gives&(1<<kind) != 0
}
