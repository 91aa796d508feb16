// Package linear: judges what clients saw of a shared thing: see DOC.md.
package linear

import (
	"linear/api"
	"linear/history"
	"linear/models"
)

// Read reads a history (P2).
func Read(text string, model string) ([]api.Op, int, api.Reason, api.Errno) {
	if !models.Known(model) {
		return nil, 0, api.None, api.ErrModel
	}
	ops, line, why := history.Read(text, model)
	return ops, line, why, api.OK
}

// Apply does one operation (P3).
func Apply(model string, state string, op api.Op) (string, api.Value, api.Errno) {
	return "", api.Value{}, api.OK
}

// Run judges a history (P4).
func Run(text string, model string, budget int) string { return "" }
