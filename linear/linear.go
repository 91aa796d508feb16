// Package linear: judges what clients saw of a shared thing: see DOC.md.
package linear

import (
	"strconv"

	"linear/api"
	"linear/history"
	"linear/models"
)

// Read reads a history (P2).
func Read(text string, model string) ([]api.Op, int, api.Reason, api.Errno) {
	if !models.Known(model) {
		return nil, 0, api.None, api.ErrModel
	}
	ops, line, why := history.Read(text, model)
	return ops, line, why, api.OK
}

// Apply does one operation (P3).
func Apply(model string, state string, op api.Op) (string, api.Value, api.Errno) {
	if !models.Known(model) {
		return "", api.Value{}, api.ErrModel
	}
	if _, ok := models.Find(model, op.Name); !ok {
		return "", api.Value{}, api.ErrOp
	}
	next, val, ok := applyTo(model, state, op)
	if !ok {
		return "", api.Value{}, api.ErrState
	}
	return next, val, api.OK
}

func applyTo(model string, state string, op api.Op) (string, api.Value, bool) {
	switch model {
	case "register":
		return models.Apply(models.Register{}, state, op)
	case "kv":
		return models.Apply(models.Store{}, state, op)
	case "queue":
		return models.Apply(models.Queue{}, state, op)
	case "set":
		return models.Apply(models.Set{}, state, op)
	case "lock":
		return models.Apply(models.Lock{}, state, op)
	}
	return "", api.Value{}, false
}

// Run judges a history (P4).
func Run(text string, model string, budget int) string {
	ops, line, why, errno := Read(text, model)
	switch {
	case errno != api.OK:
		return "NO-MODEL\n"
	case why != api.None:
		return "REJECTED-INPUT line=" + strconv.Itoa(line) + " reason=" + strconv.Itoa(int(why)) + "\n"
	}
	return judge(model, ops, min(budget, api.MaxBudget))
}
