// Package parts cuts a history into its parts, and lays together what was found of each.
package parts

import (
	"maps"
	"slices"

	"linear/api"
)

// noKey stands for the part of a model that has no keys.
const noKey = "-"

// Part is what of a history can be judged by itself.
type Part struct {
	// Name is how the part is told.
	Name string
	// Ops stand in the order of their calls.
	Ops []api.Op
}

// Whole takes the history as one part, even if it is empty.
func Whole(ops []api.Op) []Part {
	return []Part{{noKey, ops}}
}

// ByKey tells the operations of each key that occurs, in the order of the keys' bytes.
func ByKey(ops []api.Op) []Part {
	ofKey := map[string][]api.Op{}
	for _, op := range ops {
		ofKey[op.Key] = append(ofKey[op.Key], op)
	}
	var list []Part
	for _, key := range slices.Sorted(maps.Keys(ofKey)) {
		list = append(list, Part{quoted(key), ofKey[key]})
	}
	return list
}
