package linear_test

import (
	"math"
	"math/big"
	"regexp"
	"slices"
	"strconv"
	"strings"
	"sync"
	"testing"
	"unsafe"

	"linear/api"
	"linear/linear"
)

const (
	least = "-9223372036854775808"
	most  = "9223372036854775807"
)

func expectApply(t *testing.T, model, state string, op api.Op, wantState string, wantVal api.Value) {
	t.Helper()
	next, val, errno := linear.Apply(model, state, op)
	if next != wantState || val != wantVal || errno != api.OK {
		t.Errorf("Apply(%q, %.200q, %+v) = %.200q, %+v, %d, want %.200q, %+v", model, state, op, next, val, errno, wantState, wantVal)
	}
}

func expectErrno(t *testing.T, model, state string, op api.Op, want api.Errno) {
	t.Helper()
	next, val, errno := linear.Apply(model, state, op)
	if next != "" || val != (api.Value{}) || errno != want {
		t.Errorf("Apply(%.80q, %.80q, %+v) = %.80q, %+v, %d, want the error %d", model, state, op, next, val, errno, want)
	}
}

// P3: the rows on Apply below the document's examples.
func TestApplyExamples(t *testing.T) {
	expectApply(t, "queue", "3,4", api.Op{Name: "deq"}, "4", number(3))
	expectApply(t, "lock", "7", api.Op{Name: "rel", By: 8}, "7", truth(0))
	expectApply(t, "set", "0", api.Op{Name: "add"}, "1", truth(1))
	expectErrno(t, "register", "01", api.Op{Name: "read"}, api.ErrState)
	expectApply(t, "kv", "-", api.Op{Name: "del"}, "-", truth(0))
}

// P3: read, write, cas.
func TestApplyRegister(t *testing.T) {
	read := api.Op{Name: "read"}
	for state, n := range map[string]int64{"0": 0, "7": 7, "-7": -7, "10": 10, most: math.MaxInt64, least: math.MinInt64} {
		expectApply(t, "register", state, read, state, number(n))
		expectApply(t, "register", state, api.Op{Name: "write", Arg: n}, state, api.Value{})
		expectApply(t, "register", "3", api.Op{Name: "write", Arg: n, Exp: 3}, state, api.Value{})
		expectApply(t, "register", "3", api.Op{Name: "cas", Exp: 3, Arg: n}, state, truth(1))
		expectApply(t, "register", state, api.Op{Name: "cas", Exp: n, Arg: 3}, "3", truth(1))
		expectApply(t, "register", state, api.Op{Name: "cas", Exp: n, Arg: n}, state, truth(1))
		expectApply(t, "register", state, api.Op{Name: "cas", Exp: 3, Arg: n}, state, truth(0))
		expectApply(t, "register", state, api.Op{Name: "cas", Exp: n + 1, Arg: 3}, state, truth(0))
		expectApply(t, "register", state, api.Op{Name: "cas", Exp: n - 1, Arg: 3}, state, truth(0))
	}
	expectApply(t, "register", "0", api.Op{Name: "cas"}, "0", truth(1))
	expectApply(t, "register", "1", api.Op{Name: "cas", Arg: 1}, "1", truth(0))
}

// P3: get, put, del.
func TestApplyStore(t *testing.T) {
	expectApply(t, "kv", "-", api.Op{Name: "get", Key: "a"}, "-", api.Value{})
	expectApply(t, "kv", "-", api.Op{Name: "get", Key: "a", Arg: 5}, "-", api.Value{})
	expectApply(t, "kv", "-", api.Op{Name: "del", Key: "a", Arg: 5}, "-", truth(0))
	for state, n := range map[string]int64{"0": 0, "7": 7, "-7": -7, "10": 10, most: math.MaxInt64, least: math.MinInt64} {
		expectApply(t, "kv", state, api.Op{Name: "get", Key: "a"}, state, number(n))
		expectApply(t, "kv", "-", api.Op{Name: "put", Key: "a", Arg: n}, state, api.Value{})
		expectApply(t, "kv", "3", api.Op{Name: "put", Key: "a", Arg: n}, state, api.Value{})
		expectApply(t, "kv", state, api.Op{Name: "put", Key: "a", Arg: n}, state, api.Value{})
		expectApply(t, "kv", state, api.Op{Name: "del", Key: "a"}, "-", truth(1))
		expectApply(t, "kv", state, api.Op{Name: "del"}, "-", truth(1))
	}
}

// P3: enq, deq.
func TestApplyQueue(t *testing.T) {
	deq := api.Op{Name: "deq", Arg: 9}
	expectApply(t, "queue", "", deq, "", api.Value{})
	expectApply(t, "queue", "0", deq, "", number(0))
	expectApply(t, "queue", least, deq, "", number(math.MinInt64))
	expectApply(t, "queue", most, deq, "", number(math.MaxInt64))
	expectApply(t, "queue", most+","+least, deq, least, number(math.MaxInt64))
	expectApply(t, "queue", "-1,2,-3", deq, "2,-3", number(-1))
	expectApply(t, "queue", "5,5,5", deq, "5,5", number(5))
	expectApply(t, "queue", "10,0,1", deq, "0,1", number(10))
	enq := func(n int64) api.Op { return api.Op{Name: "enq", Arg: n} }
	expectApply(t, "queue", "", enq(0), "0", api.Value{})
	expectApply(t, "queue", "", enq(math.MinInt64), least, api.Value{})
	expectApply(t, "queue", "0", enq(0), "0,0", api.Value{})
	expectApply(t, "queue", "3", enq(-4), "3,-4", api.Value{})
	expectApply(t, "queue", "3,-4", enq(2), "3,-4,2", api.Value{})
	expectApply(t, "queue", least, enq(math.MaxInt64), least+","+most, api.Value{})
	long := strings.Repeat("12,", 100000) + "-1"
	expectApply(t, "queue", long, enq(7), long+",7", api.Value{})
	expectApply(t, "queue", long, deq, long[3:], number(12))
}

// P3: what goes in comes out in that order, and then there is nothing more.
func TestApplyQueueInOrder(t *testing.T) {
	state := ""
	for n := range int64(200) {
		state, _, _ = linear.Apply("queue", state, api.Op{Name: "enq", Arg: n*n - 100*n})
	}
	for n := range int64(200) {
		next, val, errno := linear.Apply("queue", state, api.Op{Name: "deq"})
		if val != number(n*n-100*n) || errno != api.OK {
			t.Fatalf("the number %d is %+v, %d", n, val, errno)
		}
		state = next
	}
	expectApply(t, "queue", state, api.Op{Name: "deq"}, "", api.Value{})
}

// P3: add, rem, has.
func TestApplySet(t *testing.T) {
	for _, key := range []string{"", "a", "\xff"} {
		expectApply(t, "set", "0", api.Op{Name: "add", Key: key}, "1", truth(1))
		expectApply(t, "set", "1", api.Op{Name: "add", Key: key}, "1", truth(0))
		expectApply(t, "set", "0", api.Op{Name: "rem", Key: key}, "0", truth(0))
		expectApply(t, "set", "1", api.Op{Name: "rem", Key: key}, "0", truth(1))
		expectApply(t, "set", "0", api.Op{Name: "has", Key: key}, "0", truth(0))
		expectApply(t, "set", "1", api.Op{Name: "has", Key: key}, "1", truth(1))
	}
}

// P3: acq, rel; the client counts, not the arg.
func TestApplyLock(t *testing.T) {
	for text, client := range map[string]int64{"0": 0, "7": 7, "-7": -7, "10": 10, most: math.MaxInt64, least: math.MinInt64} {
		acquire, release := api.Op{Name: "acq", By: client, Arg: 5}, api.Op{Name: "rel", By: client, Arg: 5}
		expectApply(t, "lock", "-", acquire, text, truth(1))
		expectApply(t, "lock", text, acquire, text, truth(0))
		expectApply(t, "lock", "5", acquire, "5", truth(0))
		expectApply(t, "lock", "-", release, "-", truth(0))
		expectApply(t, "lock", text, release, "-", truth(1))
		expectApply(t, "lock", "5", release, "5", truth(0))
		expectApply(t, "lock", text, api.Op{Name: "rel", By: client + 1}, text, truth(0))
		expectApply(t, "lock", text, api.Op{Name: "acq", By: client + 1}, text, truth(0))
	}
}

// P3: the id, the lines and the value of an operation, and what it does not need, change nothing.
func TestApplyIgnoresTheRest(t *testing.T) {
	states := map[string]string{"register": "3", "kv": "3", "queue": "3", "set": "1", "lock": "3"}
	for _, o := range operations {
		op := api.Op{Name: o.name, By: 3, Arg: 4, Exp: 3}
		next, val, errno := linear.Apply(o.model, states[o.model], op)
		if errno != api.OK {
			t.Errorf("%s %s: %d", o.model, o.name, errno)
		}
		op.ID, op.Call, op.Ret, op.Val, op.Key = 8, -1, 9, api.Value{Kind: 77, N: 5}, "\x00"
		expectApply(t, o.model, states[o.model], op, next, val)
	}
}

// P3: only what the document calls a state is one; told by patterns and great numbers.
func TestApplyKnowsStates(t *testing.T) {
	const integer = `(0|-?[1-9][0-9]*)`
	patterns := map[string]*regexp.Regexp{
		"register": regexp.MustCompile(`^` + integer + `$`),
		"kv":       regexp.MustCompile(`^(` + integer + `|-)$`),
		"queue":    regexp.MustCompile(`^(` + integer + `(,` + integer + `)*)?$`),
		"set":      regexp.MustCompile(`^[01]$`),
		"lock":     regexp.MustCompile(`^(` + integer + `|-)$`),
	}
	names := map[string][]string{}
	for _, o := range operations {
		names[o.model] = append(names[o.model], o.name)
	}
	for _, text := range stateTexts() {
		for model, pattern := range patterns {
			want := api.ErrState
			if pattern.MatchString(text) && allWithin64Bits(text) {
				want = api.OK
			}
			for _, name := range names[model] {
				if _, _, errno := linear.Apply(model, text, api.Op{Name: name}); errno != want {
					t.Errorf("Apply(%s, %q, %s) = %d, want %d", model, text, name, errno, want)
				}
				if want != api.OK {
					expectErrno(t, model, text, api.Op{Name: name}, api.ErrState)
				}
			}
		}
	}
}

func stateTexts() []string {
	texts := []string{""}
	for from, length := 0, 0; length < 5; length++ {
		to := len(texts)
		for _, text := range texts[from:to] {
			for _, c := range "-,+ 019x" {
				texts = append(texts, text+string(c))
			}
		}
		from = to
	}
	for _, odd := range []string{"\n", "1\n", "\x00", "1\x00", "\xff", "١", "−1", "1_0", "0x1", "1e1", "1.0", "nil", "true", "none", "0b1", "1;2", "1,\t2"} {
		texts = append(texts, odd)
	}
	edges := []string{most, "9223372036854775808", least, "-9223372036854775809", "18446744073709551615", "18446744073709551616", "-" + most, "0" + most, "+" + most, "99999999999999999999", strings.Repeat("9", 1000)}
	for _, edge := range edges {
		texts = append(texts, edge, edge+",1", "1,"+edge, edge+","+edge, edge+" ", edge+",", "1,"+edge+",1")
	}
	return texts
}

func allWithin64Bits(text string) bool {
	for piece := range strings.SplitSeq(text, ",") {
		if n, ok := new(big.Int).SetString(piece, 10); ok && !n.IsInt64() {
			return false
		}
	}
	return true
}

// P3: the error that is named first, and P1: nothing beside it.
func TestApplyErrors(t *testing.T) {
	for _, model := range []string{"", " ", "Register", "register ", "kv\x00", "read", "stack", "\xff", "-", "0"} {
		for _, state := range []string{"", "0", "-", "x", "01"} {
			for _, name := range []string{"", "read", "get", "deq", "x"} {
				expectErrno(t, model, state, api.Op{Name: name, By: 1, Arg: 2, Exp: 3}, api.ErrModel)
			}
		}
	}
	for _, model := range models() {
		own := []string{}
		others := []string{"", " ", "x", model, "Read", "read ", "READ", "push", "\x00", "rea", "reads", "deq\n"}
		for _, o := range operations {
			if o.model == model {
				own = append(own, o.name)
			} else {
				others = append(others, o.name)
			}
		}
		for _, name := range others {
			for _, state := range []string{"", "0", "1", "-", "x", "01", ",", "9223372036854775808"} {
				expectErrno(t, model, state, api.Op{Name: name, By: 1, Arg: 2, Exp: 3}, api.ErrOp)
			}
		}
		for _, name := range own {
			for _, state := range []string{"x", "01", "-0", "+1", " 1", "1 ", ",", "--"} {
				expectErrno(t, model, state, api.Op{Name: name, By: 1, Arg: 2, Exp: 3}, api.ErrState)
			}
		}
	}
}

// P1: the text that comes out shares no memory with the one that is handed in.
func TestApplyAnswersNewMemory(t *testing.T) {
	state := strings.Clone("12345,-67890,13579")
	from := uintptr(unsafe.Pointer(unsafe.StringData(state)))
	for _, name := range []string{"enq", "deq"} {
		next, _, _ := linear.Apply("queue", state, api.Op{Name: name})
		at := uintptr(unsafe.Pointer(unsafe.StringData(next)))
		if next == "" || at >= from && at < from+uintptr(len(state)) {
			t.Errorf("%s: %q lies in the state that was handed in", name, next)
		}
	}
}

// thing is a shared thing of plain parts, to hold Apply against: the numbers of a queue, or the one number, if there is one.
type thing struct {
	model   string
	numbers []int64
}

func (x *thing) text() string {
	var parts []string
	for _, n := range x.numbers {
		parts = append(parts, strconv.FormatInt(n, 10))
	}
	switch {
	case x.model == "queue":
		return strings.Join(parts, ",")
	case len(parts) > 0:
		return parts[0]
	case x.model == "set" || x.model == "register":
		return "0"
	}
	return "-"
}

// do puts down the rules of all models in terms of the row of numbers; an empty register is 0, a key in a set is a row of 1.
func (x *thing) do(op api.Op) api.Value {
	had := len(x.numbers) > 0
	set := func(n int64) { x.numbers = []int64{n} }
	said := func(is bool) api.Value {
		if is {
			return truth(1)
		}
		return truth(0)
	}
	switch op.Name {
	case "read":
		return number(append(slices.Clone(x.numbers), 0)[0])
	case "write", "put":
		set(op.Arg)
	case "cas":
		fits := append(slices.Clone(x.numbers), 0)[0] == op.Exp
		if fits {
			set(op.Arg)
		}
		return said(fits)
	case "get", "deq":
		if !had {
			return api.Value{}
		}
		first := x.numbers[0]
		if op.Name == "deq" {
			x.numbers = x.numbers[1:]
		}
		return number(first)
	case "enq":
		x.numbers = append(slices.Clone(x.numbers), op.Arg)
	case "del", "rem":
		x.numbers = nil
		return said(had)
	case "add":
		set(1)
		return said(!had)
	case "has":
		return said(had)
	case "acq":
		if !had {
			set(op.By)
		}
		return said(!had)
	case "rel":
		held := had && x.numbers[0] == op.By
		if held {
			x.numbers = nil
		}
		return said(held)
	}
	return api.Value{}
}

// P3: every short run of operations from the first state on, step by step.
func TestApplyShortRuns(t *testing.T) {
	for _, model := range models() {
		var steps []api.Op
		for _, o := range operations {
			if o.model != model {
				continue
			}
			for _, n := range []int64{0, 1, -12} {
				steps = append(steps, api.Op{Name: o.name, By: n, Arg: n + 1, Exp: n})
			}
		}
		things := []thing{{model: model}}
		for range 4 {
			var next []thing
			for _, x := range things {
				for _, op := range steps {
					y := x
					before := y.text()
					val := y.do(op)
					expectApply(t, model, before, op, y.text(), val)
					next = append(next, y)
				}
			}
			things = next
		}
	}
}

// P1: every call ends, none panics, and says the same the next time and beside others.
func TestApplyIsTheSameAgain(t *testing.T) {
	texts := []string{"", "-", "0", "1", "3,4", "\xff", strings.Repeat(",", 100000), strings.Repeat("-", 100000), strings.Repeat("9", 100000), strings.Repeat("1,", 100000)}
	var all sync.WaitGroup
	for range 4 {
		all.Go(func() {
			for _, model := range append(models(), "", "\xff", texts[6]) {
				for _, state := range texts {
					for _, name := range []string{"read", "cas", "put", "enq", "deq", "rem", "acq", "rel", "", texts[6]} {
						op := api.Op{Name: name, Key: state, By: math.MinInt64, Arg: math.MaxInt64, Call: -1, Ret: -1, Val: api.Value{Kind: -1}}
						next, val, errno := linear.Apply(model, state, op)
						next2, val2, errno2 := linear.Apply(model, state, op)
						if next != next2 || val != val2 || errno != errno2 {
							t.Errorf("Apply(%.80q, %.80q, %.80q) is not the same twice", model, state, name)
						}
						if errno < api.OK || errno > api.ErrState || errno != api.OK && (next != "" || val != (api.Value{})) {
							t.Errorf("Apply(%.80q, %.80q, %.80q) = %.80q, %+v, %d", model, state, name, next, val, errno)
						}
					}
				}
			}
		})
	}
	all.Wait()
}
