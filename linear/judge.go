package linear

import (
	"strconv"
	"strings"

	"linear/api"
	"linear/models"
	"linear/search"
)

// noKey stands for the part of a model that has no keys.
const noKey = "-"

// judge tells what a search of the whole history finds; for the models with keys nothing yet.
func judge(model string, ops []api.Op, budget int) string {
	switch model {
	case "register":
		return verdict(search.Part(models.Register{}, ops, budget))
	case "queue":
		return verdict(search.Part(models.Queue{}, ops, budget))
	case "lock":
		return verdict(search.Part(models.Lock{}, ops, budget))
	}
	return ""
}

func verdict(found search.Outcome) string {
	switch found.Verdict {
	case search.Linearizable:
		return "OK order=" + ids(found.Order) + "\n"
	case search.Illegal:
		return "ILLEGAL part=" + noKey + " longest=" + ids(found.Order) + "\n"
	}
	return "UNKNOWN\n"
}

func ids(ops []api.Op) string {
	var list []string
	for _, op := range ops {
		list = append(list, strconv.FormatInt(op.ID, 10))
	}
	return strings.Join(list, ",")
}
