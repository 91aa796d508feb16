package linear_test

import (
	"fmt"
	"math"
	"math/rand/v2"
	"slices"
	"strconv"
	"strings"
	"sync"
	"testing"

	"linear/api"
	"linear/linear"
)

const (
	write5 = `{"call":1,"by":7,"op":"write","arg":5}`
	read   = `{"call":2,"by":8,"op":"read"}`
	saw5   = `{"ret":2,"val":5}`
)

func expectRun(t *testing.T, text, model string, budget int, wants ...string) {
	t.Helper()
	got := linear.Run(text, model, budget)
	for _, want := range wants {
		if got == want+"\n" {
			return
		}
	}
	t.Errorf("Run(%.300q, %q, %d) = %.300q, want one of %.300q", text, model, budget, got, wants)
}

// P4: the document's examples.
func TestRunExamples(t *testing.T) {
	expectRun(t, "", "register", 100000, "OK order=")
	expectRun(t, write5, "register", 100000, "OK order=", "OK order=1")
	expectRun(t, lines(write5, read, saw5), "register", 100000, "OK order=1,2")
	expectRun(t, lines(write5, read, saw5, `{"call":3,"by":8,"op":"read"}`, `{"ret":3,"val":0}`), "register", 100000, "ILLEGAL part=- longest=1,2")
	expectRun(t, lines(`{"call":1,"by":1,"op":"get","key":"a"}`, `{"ret":1,"val":null}`), "kv", 100000, "OK order=1")
	expectRun(t, lines(`{"call":1,"by":1,"op":"get","key":"a"}`, `{"ret":1,"val":3}`), "kv", 100000, `ILLEGAL part="a" longest=`)
	expectRun(t, lines(`{"call":1,"by":1,"op":"read"}`, `{"call":2,"by":1,"op":"read"}`), "register", 100000, "REJECTED-INPUT line=2 reason=6")
	expectRun(t, `{"ret":1,"val":5}`, "register", 100000, "REJECTED-INPUT line=1 reason=7")
	expectRun(t, `{"call":1,"by":1,"op":"read","arg":5}`, "register", 100000, "REJECTED-INPUT line=1 reason=4")
	expectRun(t, `{"call":1,"by":1}`, "register", 100000, "REJECTED-INPUT line=1 reason=3")
	expectRun(t, `{"call":01}`, "register", 100000, "REJECTED-INPUT line=1 reason=2")
}

// P4: the part is the whole history even if it is empty; with or without a byte 10 at the end it is one text.
func TestRunOfLittle(t *testing.T) {
	for _, model := range models() {
		expectRun(t, "", model, 2, "OK order=")
		expectRun(t, "", model, 1, "OK order=", "UNKNOWN")
		expectRun(t, "\n", model, 2, "REJECTED-INPUT line=1 reason=2")
	}
	for _, end := range []string{"", "\n"} {
		expectRun(t, lines(write5, read, saw5)+end, "register", 100000, "OK order=1,2")
	}
	expectRun(t, write5, "register", 8, "OK order=", "OK order=1")
	expectRun(t, lines(read, saw5), "register", 4, "ILLEGAL part=- longest=")
	expectRun(t, lines(read, saw5), "register", 0, "ILLEGAL part=- longest=", "UNKNOWN")
}

var budgets = []int{math.MinInt, -1, 0, 1, 2, 1000, api.MaxBudget, api.MaxBudget + 1, math.MaxInt}

// P4: NO-MODEL stands ahead of all else, whatever the budget.
func TestRunNoModel(t *testing.T) {
	for _, model := range []string{"", " ", "Register", "register ", "queue\n", "kv\x00", "read", "stack", "\xff", "-", "OK"} {
		for _, text := range []string{"", "\n", "x", write5, lines(write5, read, saw5), `{"ret":1,"val":5}`, strings.Repeat("\n", 200)} {
			for _, budget := range budgets {
				expectRun(t, text, model, budget, "NO-MODEL")
			}
		}
	}
}

// P4: what Read refuses is refused at its line, for its reason, whatever the budget and the model.
func TestRunRejected(t *testing.T) {
	acquire := func(id int) string { return fmt.Sprintf(`{"call":%d,"by":%d,"op":"acq"}`, id, id) }
	var many []string
	for id := range 129 {
		many = append(many, acquire(id))
	}
	for _, c := range []struct {
		text string
		line int
		why  api.Reason
	}{
		{lines(many...), 129, api.Many},
		{lines(acquire(1), ``, acquire(1)), 2, api.Text},
		{lines(acquire(1), acquire(2), `{"ret":1}`), 3, api.Members},
		{lines(acquire(1), `{"call":2,"by":2,"op":"read"}`), 2, api.Operation},
		{lines(acquire(1), `{"ret":1,"val":true}`, acquire(1)), 3, api.Reused},
		{lines(acquire(1), `{"call":2,"by":1,"op":"rel"}`), 2, api.Busy},
		{lines(acquire(1), `{"ret":1,"val":true}`, `{"ret":1,"val":true}`), 3, api.NotOpen},
		{lines(many[0], `{"ret":0,"val":null}`), 2, api.BadValue},
		{lines(many[0], `{"ret":0,"val":false}`, `{`), 3, api.Text}, // it would be illegal
	} {
		for _, budget := range budgets {
			expectRun(t, c.text, "lock", budget, fmt.Sprintf("REJECTED-INPUT line=%d reason=%d", c.line, c.why))
		}
	}
	for _, model := range models() {
		for _, budget := range budgets {
			expectRun(t, `{"call":1,"by":1}`, model, budget, "REJECTED-INPUT line=1 reason=3")
		}
	}
}

// P5, P6: ids are told as they are, not the places of the operations.
func TestRunTellsIDs(t *testing.T) {
	text := lines(
		`{"call":`+least+`,"by":1,"op":"enq","arg":`+most+`}`, `{"ret":`+least+`,"val":null}`,
		`{"call":`+most+`,"by":`+least+`,"op":"deq"}`, `{"ret":`+most+`,"val":`+most+`}`,
		`{"call":0,"by":0,"op":"deq"}`, `{"ret":-0,"val":null}`)
	expectRun(t, text, "queue", 100000, "OK order="+least+","+most+",0")
	text = strings.Replace(text, "-0,\"val\":null", "-0,\"val\":-1", 1)
	expectRun(t, text, "queue", 100000, "ILLEGAL part=- longest="+least+","+most)
}

// P5, P6: what each model's clients may see.
func TestRunOfEachModel(t *testing.T) {
	for _, c := range []struct{ model, words, wants string }{
		{"register", "call 1 write 5, ret 1 null, call 2 read, ret 2 0", "ILLEGAL part=- longest=1"},
		{"register", "call 1 write 5, call 2 read, ret 2 0, ret 1 null", "OK order=2,1"},
		{"register", "call 1 write 5, call 2 read, ret 2 0, call 3 read, ret 1 null, ret 3 5", "OK order=2,1,3"},
		{"register", "call 1 write 5, call 2 read, ret 2 5, call 3 read, ret 1 null, ret 3 0", "ILLEGAL part=- longest=1,2"},
		{"register", "call 1 cas 0 5, ret 1 true, call 2 cas 0 6, ret 2 false, call 3 cas 5 6, ret 3 true", "OK order=1,2,3"},
		{"register", "call 1 cas 0 0, ret 1 false", "ILLEGAL part=- longest="},
		{"register", "call 1 cas 0 5, call 2 cas 5 6, call 3 cas 6 7, call 4 read, ret 4 7", "OK order=1,2,3,4"},
		{"queue", "call 1 enq 5, call 2 deq, ret 2 5, call 3 deq, ret 3 null, ret 1 null", "OK order=1,2,3"},
		{"queue", "call 1 enq 5, call 2 deq, ret 2 5, call 3 deq, ret 3 5, ret 1 null", "ILLEGAL part=- longest=1,2"},
		{"queue", "call 1 enq 5, ret 1 null, call 2 enq 6, ret 2 null, call 3 deq, call 4 deq, ret 4 6, ret 3 5", "OK order=1,2,3,4"},
		{"queue", "call 1 enq 5, ret 1 null, call 2 enq 6, ret 2 null, call 3 deq, call 4 deq, ret 4 6", "OK order=1,2,3,4"},
		{"queue", "call 1 enq 5, ret 1 null, call 2 enq 6, ret 2 null, call 3 deq, ret 3 6, call 4 deq, ret 4 5", "ILLEGAL part=- longest=1,2"},
		{"lock", "call 1 acq, ret 1 true, call 2 acq, ret 2 false", "OK order=1,2"},
		{"lock", "call 1 acq, ret 1 true, call 2 acq, ret 2 true", "ILLEGAL part=- longest=1"},
		{"lock", "call 1 acq, call 2 acq, ret 2 true, call 3 acq, ret 3 false, ret 1 false", "OK order=2,3,1 or OK order=2,1,3"},
		{"lock", "call 1 rel, ret 1 true", "ILLEGAL part=- longest="},
		{"lock", "call 1 acq, ret 1 true, call 1.2 rel, call 3 acq, ret 3 true", "OK order=1,2,3"},
	} {
		expectRun(t, textOf(c.words), c.model, 100000, strings.Split(c.wants, " or ")...)
	}
}

// textOf tells a history by words: `call 1.2 write 5` is a call of client 1 with the id 2 (`call 2`: of client 2), `call 3 put a 5` one with a key, `ret 2 null` a return.
func textOf(words string) string {
	var out []string
	for line := range strings.SplitSeq(words, ", ") {
		f := strings.Fields(line)
		if f[0] == "ret" {
			out = append(out, `{"ret":`+f[1]+`,"val":`+f[2]+`}`)
			continue
		}
		by, id, ok := strings.Cut(f[1], ".")
		if !ok {
			id = by
		}
		event := map[string]string{"call": id, "by": by, "op": `"` + f[2] + `"`}
		rest := f[3:]
		if strings.Contains(" get put del add rem has ", " "+f[2]+" ") {
			event["key"] = `"` + rest[0] + `"`
			rest = rest[1:]
		}
		if len(rest) > 0 {
			event["arg"] = rest[len(rest)-1]
		}
		if len(rest) > 1 {
			event["exp"] = rest[0]
		}
		out = append(out, object(event))
	}
	return lines(out...)
}

// found is what a plain walk through all configurations of a part finds: how many there are, and how many operations the greatest has.
type found struct {
	configurations, longest int
	linearizable            bool
}

// walk goes from each set of operations and state to all that follow it, by the document's words alone.
func walk(model string, ops []api.Op) found {
	type place struct {
		done []bool
		what thing
	}
	here := map[string]place{"": {make([]bool, len(ops)), thing{model: model}}}
	var all found
	for length := 0; len(here) > 0; length++ {
		all.configurations += len(here)
		all.longest = length
		next := map[string]place{}
		for _, p := range here {
			if !slices.ContainsFunc(ops, func(op api.Op) bool { return op.Ret != 0 && !p.done[slices.Index(ops, op)] }) {
				all.linearizable = true
			}
			for i, op := range ops {
				if p.done[i] || slices.ContainsFunc(ops, func(o api.Op) bool { return isAhead(o, op) && !p.done[slices.Index(ops, o)] }) {
					continue
				}
				q := place{slices.Clone(p.done), p.what}
				q.done[i] = true
				if val := q.what.do(op); op.Ret == 0 || val == op.Val {
					next[fmt.Sprint(q.done, q.what.text())] = q
				}
			}
		}
		here = next
	}
	return all
}

// told is what the document asks Run to tell of a history: of the first part that is not linearizable its name, its operations, and how many of them can be done.
type told struct {
	found
	part string
	ops  []api.Op
}

// walkParts walks through one part behind the other.
func walkParts(model string, ops []api.Op) told {
	all := told{found: found{linearizable: true}}
	for _, key := range keysOf(ops) {
		part := withKey(ops, key)
		one := walk(model, part)
		all.configurations += one.configurations
		if all.linearizable && !one.linearizable {
			all.linearizable, all.longest, all.part, all.ops = false, one.longest, nameOf(model, key), part
		}
	}
	if len(ops) == 0 && !hasKeys(model) {
		all.configurations = 1
	}
	return all
}

func hasKeys(model string) bool { return model == "kv" || model == "set" }

// keysOf tells the keys that occur, the least first; all operations of a model without keys have the empty one.
func keysOf(ops []api.Op) []string {
	var keys []string
	for _, op := range ops {
		keys = append(keys, op.Key)
	}
	slices.Sort(keys)
	return slices.Compact(keys)
}

func withKey(ops []api.Op, key string) []api.Op {
	return slices.DeleteFunc(slices.Clone(ops), func(op api.Op) bool { return op.Key != key })
}

func nameOf(model, key string) string {
	if !hasKeys(model) {
		return "-"
	}
	name := strings.NewReplacer(`"`, `\"`, `\`, `\\`).Replace(key)
	for c := range rune(32) {
		name = strings.ReplaceAll(name, string(c), fmt.Sprintf(`\u%04x`, c))
	}
	return `"` + name + `"`
}

func isAhead(a, b api.Op) bool { return a.Ret != 0 && a.Ret < b.Call }

// fault tells what keeps a list of ids from being a partial linearization; nothing, if it is one.
func fault(model string, ops []api.Op, list string) (length int, why string) {
	what := thing{model: model}
	stood := map[int64]bool{}
	for id := range strings.SplitSeq(list, ",") {
		n, err := strconv.ParseInt(id, 10, 64)
		at := slices.IndexFunc(ops, func(op api.Op) bool { return op.ID == n })
		if list == "" {
			break
		}
		if err != nil || strconv.FormatInt(n, 10) != id || at < 0 || stood[n] {
			return length, "no id, or one twice: " + id
		}
		for _, op := range ops {
			if isAhead(op, ops[at]) && !stood[op.ID] {
				return length, fmt.Sprintf("%d is not before %d", op.ID, n)
			}
		}
		if val := what.do(ops[at]); ops[at].Ret != 0 && val != ops[at].Val {
			return length, fmt.Sprintf("%d gives %v", n, val)
		}
		stood[n] = true
		length++
	}
	for _, op := range ops {
		if op.Ret != 0 && !stood[op.ID] {
			why = "not all"
		}
	}
	return length, why
}

// orderFault tells what keeps a list of ids from being the order of an OK; nothing, if it is one.
func orderFault(model string, ops []api.Op, list string) string {
	ofKey := map[string][]string{}
	var stood []api.Op
	for id := range strings.FieldsFuncSeq(list, func(c rune) bool { return c == ',' }) {
		at := slices.IndexFunc(ops, func(op api.Op) bool { return strconv.FormatInt(op.ID, 10) == id })
		if at < 0 {
			return "no id: " + id
		}
		for _, op := range stood {
			if isAhead(ops[at], op) {
				return fmt.Sprintf("%s is not before %d", id, op.ID)
			}
		}
		stood = append(stood, ops[at])
		ofKey[ops[at].Key] = append(ofKey[ops[at].Key], id)
	}
	if strings.Count(list, ",") != max(0, len(stood)-1) {
		return "no list"
	}
	for _, key := range keysOf(ops) {
		if _, why := fault(model, withKey(ops, key), strings.Join(ofKey[key], ",")); why != "" {
			return fmt.Sprintf("of %q: %s", key, why)
		}
	}
	return ""
}

// expectOK holds the order of an OK against the document's words.
func expectOK(t *testing.T, model, text, answer string) {
	t.Helper()
	ops, _, _, _ := linear.Read(text, model)
	order, ok := strings.CutPrefix(answer, "OK order=")
	if why := orderFault(model, ops, strings.TrimSuffix(order, "\n")); !ok || why != "" {
		t.Errorf("Run(%q, %q) = %q, it is linearizable: %s", text, model, answer, why)
	}
}

// expectJudged holds Run against the walk: P4 to P7.
func expectJudged(t *testing.T, model, text string) told {
	t.Helper()
	ops, _, why, _ := linear.Read(text, model)
	if why != api.None {
		t.Fatalf("%s: Read refuses %q: %d", model, text, why)
	}
	all := walkParts(model, ops)
	enough := 2 * (len(ops) + 1) * all.configurations
	answer := linear.Run(text, model, enough)
	switch line, end := strings.CutSuffix(answer, "\n"); {
	case !end || strings.Contains(line, "\n"):
		t.Errorf("Run(%q, %q) = %q is not one line", text, model, answer)
	case all.linearizable:
		expectOK(t, model, text, answer)
	default:
		list, ok := strings.CutPrefix(line, "ILLEGAL part="+all.part+" longest=")
		if length, why := fault(model, all.ops, list); !ok || why != "not all" || length != all.longest {
			t.Errorf("Run(%q, %q) = %q, the longest of %s has %d: %s", text, model, answer, all.part, all.longest, why)
		}
	}
	expectSameWithMore(t, model, text, enough, answer)
	return all
}

// expectSameWithMore: with less it is unknown, or the answer; and once it is known it stays so.
func expectSameWithMore(t *testing.T, model, text string, enough int, answer string) {
	t.Helper()
	known := false
	for budget := -2; budget <= enough; budget += 1 + budget/50 {
		got := linear.Run(text, model, budget)
		if got != answer && (known || got != "UNKNOWN\n") {
			t.Errorf("Run(%q, %q, %d) = %q, with %d %q", text, model, budget, got, enough, answer)
		}
		known = known || got == answer
	}
	for _, budget := range []int{enough, enough + 1, 2*enough + 5, api.MaxBudget, math.MaxInt} {
		if got := linear.Run(text, model, budget); got != answer {
			t.Errorf("Run(%q, %q, %d) = %q, with %d %q", text, model, budget, got, enough, answer)
		}
	}
}

// chance makes histories out of a fixed row of random numbers.
type chance struct {
	*rand.Rand
	model string
}

// history lets clients use a thing; each call happens at its call, at its return, or never, and some returns are not what it gave.
func (c chance) history(events, clients, lies int) string {
	things := map[string]*thing{}
	for _, key := range c.keys() {
		things[key] = &thing{model: c.model}
	}
	type open struct {
		op   api.Op
		done bool
	}
	var calls []open
	var out []string
	ids := c.Perm(200)
	for range events {
		by := c.IntN(clients)
		at := slices.IndexFunc(calls, func(o open) bool { return o.op.By == int64(by) })
		if at < 0 {
			event, op := c.call(ids[len(out)]-100, by)
			o := open{op: op}
			if c.IntN(2) == 0 {
				o.op.Val, o.done = things[op.Key].do(op), true
			}
			calls = append(calls, o)
			out = append(out, event)
			continue
		}
		o := calls[at]
		if !o.done {
			o.op.Val = things[o.op.Key].do(o.op)
		}
		if c.IntN(100) < lies {
			o.op.Val = c.lie(o.op)
		}
		out = append(out, fmt.Sprintf(`{"ret":%d,"val":%s}`, o.op.ID, valueText(o.op.Val)))
		calls = slices.Delete(calls, at, at+1)
	}
	return lines(out...)
}

func (c chance) keys() []string {
	if !hasKeys(c.model) {
		return []string{""}
	}
	return []string{"", "b", "é"}
}

func (c chance) call(id, by int) (string, api.Op) {
	var own []int
	for i, o := range operations {
		if o.model == c.model {
			own = append(own, i)
		}
	}
	o := operations[own[c.IntN(len(own))]]
	op := api.Op{ID: int64(id), By: int64(by), Name: o.name, Arg: int64(c.IntN(3)), Exp: int64(c.IntN(3))}
	event := map[string]string{"call": strconv.Itoa(id), "by": strconv.Itoa(by), "op": `"` + o.name + `"`}
	if hasKeys(c.model) {
		op.Key = c.keys()[c.IntN(len(c.keys()))]
		event["key"] = `"` + op.Key + `"`
	}
	if strings.Contains(o.needs, "arg") {
		event["arg"] = fmt.Sprint(op.Arg)
	}
	if strings.Contains(o.needs, "exp") {
		event["exp"] = fmt.Sprint(op.Exp)
	}
	return object(event), op
}

func (c chance) lie(op api.Op) api.Value {
	switch {
	case op.Val.Kind == api.Bool:
		return truth(int64(c.IntN(2)))
	case (op.Name == "deq" || op.Name == "get") && c.IntN(3) == 0:
		return api.Value{}
	case op.Name == "deq" || op.Name == "get" || op.Name == "read":
		return number(int64(c.IntN(3)))
	}
	return op.Val
}

func valueText(v api.Value) string {
	switch v.Kind {
	case api.Bool:
		return strconv.FormatBool(v.N == 1)
	case api.Int:
		return strconv.FormatInt(v.N, 10)
	}
	return "null"
}

// P4 to P7: many small histories, held against the walk.
func TestRunOfManyHistories(t *testing.T) {
	for m, model := range models() {
		t.Run(model, func(t *testing.T) {
			t.Parallel()
			c := chance{rand.New(rand.NewPCG(uint64(m), 7)), model}
			yes, no := 0, 0
			for range 1500 {
				if expectJudged(t, model, c.history(1+c.IntN(12), 1+c.IntN(4), 40)).linearizable {
					yes++
				} else {
					no++
				}
			}
			if yes < 300 || no < 300 {
				t.Errorf("%d are linearizable, %d are not: the histories tell too little", yes, no)
			}
		})
	}
}

// P4, P5: what was really done one after the other is OK, however long the history is; and so is what comes of it by cutting it off.
func TestRunOfLongHistories(t *testing.T) {
	for m, model := range models() {
		c := chance{rand.New(rand.NewPCG(uint64(m), 8)), model}
		for range 10 {
			text := c.history(api.MaxEvents, 3, 0)
			for text != "" {
				expectOK(t, model, text, linear.Run(text, model, api.MaxBudget))
				text = text[:max(0, strings.LastIndex(text, "\n"))]
			}
		}
	}
}

// crowd: pending writes of 1, 2 and so on by as many clients, and then what is told.
func crowd(writes int, then ...string) string {
	var out []string
	for n := 1; n <= writes; n++ {
		out = append(out, fmt.Sprintf(`{"call":%d,"by":%d,"op":"write","arg":%d}`, n, n, n))
	}
	return lines(append(out, then...)...)
}

// P5: more operations than a word has bits, up to the last place there is.
func TestRunOfManyPending(t *testing.T) {
	expectOK(t, "register", crowd(128), linear.Run(crowd(128), "register", api.MaxBudget))
	for saw := 1; saw < 124; saw++ {
		text := crowd(124, `{"call":125,"by":125,"op":"read"}`, fmt.Sprintf(`{"ret":125,"val":%d}`, saw), `{"call":126,"by":125,"op":"read"}`, fmt.Sprintf(`{"ret":126,"val":%d}`, saw+1))
		expectOK(t, "register", text, linear.Run(text, "register", api.MaxBudget))
	}
}

// P6, P7: what was called behind a return can not come before it: there is one configuration, and 2 (k + 1) is enough.
func TestRunOfPendingBehindTheFault(t *testing.T) {
	text := lines(`{"call":0,"by":0,"op":"read"}`, `{"ret":0,"val":7}`, crowd(126))
	expectRun(t, text, "register", 2*(127+1), "ILLEGAL part=- longest=")
	text = lines(`{"call":0,"by":0,"op":"read"}`, `{"ret":0,"val":0}`, `{"call":-1,"by":0,"op":"read"}`, `{"ret":-1,"val":7}`, crowd(124))
	expectRun(t, text, "register", 2*(126+1)*2, "ILLEGAL part=- longest=0")
}

// P4, P7: of n pending writes and a read of none of them there are n 2^(n-1) + 1 configurations.
func TestRunCountsMaxBudget(t *testing.T) {
	none := []string{`{"call":0,"by":0,"op":"read"}`, `{"ret":0,"val":-1}`}
	enough := 2 * (13 + 1) * (12*2048 + 1)
	for _, budget := range []int{enough, api.MaxBudget, math.MaxInt} {
		answer := linear.Run(crowd(12, none...), "register", budget)
		list, ok := strings.CutPrefix(answer, "ILLEGAL part=- longest=")
		if !ok || strings.Count(list, ",") != 11 {
			t.Errorf("twelve writes with the budget %d: %q", budget, answer)
		}
	}
	for _, writes := range []int{13, 14, 15, 16, 60, 126} {
		first := linear.Run(crowd(writes, none...), "register", api.MaxBudget)
		for _, budget := range []int{api.MaxBudget + 1, 1 << 40, math.MaxInt} {
			expectRun(t, crowd(writes, none...), "register", budget, strings.TrimSuffix(first, "\n"))
		}
		// Looking at 14 operations in each of 13 2^12 + 1 configurations is within MaxBudget, at 15 in each of 14 2^13 + 1 is not.
		if (first == "UNKNOWN\n") != (writes > 13) {
			t.Errorf("%d writes: %q", writes, first)
		}
	}
}

// P1, P7: it ends soon and does not need much room, even where the states are long texts.
func TestRunOfLongStates(t *testing.T) {
	var out []string
	for n := range 126 {
		out = append(out, fmt.Sprintf(`{"call":%d,"by":%d,"op":"enq","arg":%d}`, n, n, math.MinInt64+n))
	}
	text := lines(append(out, `{"call":200,"by":200,"op":"deq"}`, `{"ret":200,"val":5}`)...)
	expectRun(t, text, "queue", math.MaxInt, "UNKNOWN")
}

// P1: none panics, and each says the same the next time and beside others.
func TestRunIsTheSameAgain(t *testing.T) {
	c := chance{rand.New(rand.NewPCG(1, 9)), "queue"}
	texts := []string{"", "\x00", "\xff\xfe", strings.Repeat("{", 1000), strings.Repeat("\n", 1000), crowd(20), lines(write5, read, saw5)}
	for range 20 {
		texts = append(texts, c.history(20, 4, 20))
	}
	first := map[string]string{}
	for _, text := range texts {
		for _, model := range append(models(), "", "\xff") {
			for _, budget := range budgets {
				first[fmt.Sprint(text, model, budget)] = linear.Run(text, model, budget)
			}
		}
	}
	var all sync.WaitGroup
	for range 4 {
		all.Go(func() {
			for _, text := range texts {
				for _, model := range append(models(), "", "\xff") {
					for _, budget := range budgets {
						if got := linear.Run(text, model, budget); got != first[fmt.Sprint(text, model, budget)] {
							t.Errorf("Run(%.80q, %q, %d) is not the same twice", text, model, budget)
						}
					}
				}
			}
		})
	}
	all.Wait()
}
