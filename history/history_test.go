package history

import (
	"reflect"
	"strconv"
	"strings"
	"testing"

	"linear/api"
)

// event is a line and what it means, so that the rules can be held without reading the line.
type event struct {
	line   string
	broken api.Reason // what the line alone breaks
	call   bool
	op     api.Op    // of a call
	id     int64     // of a return
	val    api.Value // of a return
}

func call(id, by int64, name string, arg string) event {
	line := `{"call":` + strconv.FormatInt(id, 10) + `,"by":` + strconv.FormatInt(by, 10) + `,"op":"` + name + `"`
	op := api.Op{ID: id, By: by, Name: name}
	if arg != "" {
		line += `,"arg":` + arg
		op.Arg, _ = strconv.ParseInt(arg, 10, 64)
	}
	e := event{line: line + "}", call: true, op: op}
	if name != "enq" && name != "deq" || (name == "enq") != (arg != "") {
		e.broken = api.Operation
	}
	return e
}

func ret(id int64, val string) event {
	e := event{line: `{"ret":` + strconv.FormatInt(id, 10) + `,"val":` + val + `}`, id: id}
	switch val {
	case "null":
	case "true":
		e.val = api.Value{Kind: api.Bool, N: 1}
	default:
		n, _ := strconv.ParseInt(val, 10, 64)
		e.val = api.Value{Kind: api.Int, N: n}
	}
	return e
}

// judge goes through all earlier events anew at each line, and gathers every reason that the line breaks.
func judge(events []event) ([]api.Op, int, api.Reason) {
	var ops []api.Op
	for i, e := range events {
		var broken []api.Reason
		if e.broken != api.None {
			broken = append(broken, e.broken)
		}
		open := -1
		for at, op := range ops {
			if e.call && op.ID == e.op.ID {
				broken = append(broken, api.Reused)
			}
			if e.call && op.By == e.op.By && op.Ret == 0 {
				broken = append(broken, api.Busy)
			}
			if !e.call && op.ID == e.id && op.Ret == 0 {
				open = at
			}
		}
		if !e.call && e.broken == api.None {
			if open < 0 {
				broken = append(broken, api.NotOpen)
			} else if e.val.Kind == api.Bool || ops[open].Name == "enq" && e.val.Kind != api.Null {
				broken = append(broken, api.BadValue)
			}
		}
		if len(broken) > 0 {
			least := broken[0]
			for _, r := range broken {
				least = min(least, r)
			}
			return nil, i + 1, least
		}
		if e.call {
			op := e.op
			op.Call = i + 1
			ops = append(ops, op)
		} else {
			ops[open].Ret = i + 1
			ops[open].Val = e.val
		}
	}
	return ops, 0, api.None
}

// Every history of at most four events out of these is held against the rules as judge has them.
func TestAllShortHistories(t *testing.T) {
	choices := []event{
		call(1, 1, "enq", "5"), call(1, 2, "deq", ""), call(2, 1, "deq", ""), call(2, 2, "enq", "-6"), call(3, 2, "deq", ""),
		call(2, 1, "enq", ""), call(1, 1, "deq", "5"), call(3, 3, "read", ""),
		ret(1, "null"), ret(1, "5"), ret(2, "null"), ret(2, "0"), ret(2, "true"), ret(4, "null"),
		{line: `{}`, broken: api.Members}, {line: `{"call":1,"by":1,"op":"deq","ret":1}`, broken: api.Members},
		{line: `{`, broken: api.Text},
	}
	seen := map[api.Reason]int{}
	var grow func(events []event)
	grow = func(events []event) {
		var lines []string
		for _, e := range events {
			lines = append(lines, e.line)
		}
		text := strings.Join(lines, "\n")
		ops, line, why := Read(text, "queue")
		wantOps, wantLine, wantWhy := judge(events)
		seen[why]++
		if line != wantLine || why != wantWhy || len(ops) != len(wantOps) || len(ops) > 0 && !reflect.DeepEqual(ops, wantOps) {
			t.Fatalf("Read(%q) = %+v, %d, %d, want %+v, %d, %d", text, ops, line, why, wantOps, wantLine, wantWhy)
		}
		if len(events) < 4 && why == api.None {
			for _, e := range choices {
				grow(append(events[:len(events):len(events)], e))
			}
		}
	}
	grow(nil)
	for why := api.None; why <= api.BadValue; why++ {
		if seen[why] == 0 && why != api.Many {
			t.Errorf("no history here is refused for %d", why)
		}
	}
}
