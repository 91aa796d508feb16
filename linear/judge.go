package linear

import (
	"strconv"
	"strings"

	"linear/api"
	"linear/models"
	"linear/parts"
	"linear/search"
)

// judge tells what a search of the history's parts finds.
func judge(model string, ops []api.Op, budget int) string {
	switch model {
	case "register":
		return judgeParts(models.Register{}, parts.Whole(ops), budget)
	case "kv":
		return judgeParts(models.Store{}, parts.ByKey(ops), budget)
	case "queue":
		return judgeParts(models.Queue{}, parts.Whole(ops), budget)
	case "set":
		return judgeParts(models.Set{}, parts.ByKey(ops), budget)
	case "lock":
		return judgeParts(models.Lock{}, parts.Whole(ops), budget)
	}
	return ""
}

// judgeParts searches one part behind the other, each with what the ones before have left of the budget.
// It ends at the first part that is illegal or unknown: of the keys the least is to be told, so none behind it changes the answer.
func judgeParts[S comparable, M models.Model[S]](model M, list []parts.Part, budget int) string {
	var linearizations [][]api.Op
	for _, part := range list {
		found := search.Part(model, part.Ops, budget)
		switch found.Verdict {
		case search.Unknown:
			return "UNKNOWN\n"
		case search.Illegal:
			return "ILLEGAL part=" + part.Name + " longest=" + ids(found.Order) + "\n"
		}
		linearizations = append(linearizations, found.Order)
		budget = found.Left
	}
	return "OK order=" + ids(parts.Merge(linearizations)) + "\n"
}

func ids(ops []api.Op) string {
	var list []string
	for _, op := range ops {
		list = append(list, strconv.FormatInt(op.ID, 10))
	}
	return strings.Join(list, ",")
}
