package linear_test

import (
	"fmt"
	"math"
	"reflect"
	"strings"
	"sync"
	"testing"

	"linear/api"
	"linear/linear"
)

func lines(l ...string) string { return strings.Join(l, "\n") }

func models() []string { return []string{"register", "kv", "queue", "set", "lock"} }

func number(n int64) api.Value { return api.Value{Kind: api.Int, N: n} }

func truth(n int64) api.Value { return api.Value{Kind: api.Bool, N: n} }

func expectOps(t *testing.T, text, model string, want []api.Op) {
	t.Helper()
	ops, line, why, errno := linear.Read(text, model)
	if line != 0 || why != api.None || errno != api.OK || len(ops) != len(want) || len(ops) > 0 && !reflect.DeepEqual(ops, want) {
		t.Errorf("Read(%.200q, %q) = %+v, %d, %d, %d, want %+v", text, model, ops, line, why, errno, want)
	}
}

func expectRefused(t *testing.T, text, model string, wantLine int, wantWhy api.Reason) {
	t.Helper()
	ops, line, why, errno := linear.Read(text, model)
	if len(ops) != 0 || line != wantLine || why != wantWhy || errno != api.OK {
		t.Errorf("Read(%.200q, %q) = %+v, %d, %d, %d, want line %d, reason %d", text, model, ops, line, why, errno, wantLine, wantWhy)
	}
}

// P2: a whole history of each model.
func TestReadOfEachModel(t *testing.T) {
	expectOps(t, lines(
		`{"call":1,"by":1,"op":"write","arg":5}`, `{"call":2,"by":2,"op":"cas","exp":5,"arg":6}`, `{"call":3,"by":3,"op":"read"}`,
		`{"ret":3,"val":5}`, `{"ret":2,"val":true}`, `{"ret":1,"val":null}`, `{"call":4,"by":1,"op":"read"}`,
	), "register", []api.Op{
		{ID: 1, By: 1, Name: "write", Arg: 5, Call: 1, Ret: 6},
		{ID: 2, By: 2, Name: "cas", Exp: 5, Arg: 6, Call: 2, Ret: 5, Val: truth(1)},
		{ID: 3, By: 3, Name: "read", Call: 3, Ret: 4, Val: number(5)},
		{ID: 4, By: 1, Name: "read", Call: 7},
	})
	expectOps(t, lines(
		`{"call":1,"by":1,"op":"put","key":"a","arg":5}`, `{"ret":1,"val":null}`, `{"call":2,"by":1,"op":"get","key":"b"}`, `{"ret":2,"val":null}`,
		`{"call":3,"by":1,"op":"get","key":"a"}`, `{"ret":3,"val":5}`, `{"call":4,"by":1,"op":"del","key":""}`, `{"ret":4,"val":false}`,
	), "kv", []api.Op{
		{ID: 1, By: 1, Name: "put", Key: "a", Arg: 5, Call: 1, Ret: 2},
		{ID: 2, By: 1, Name: "get", Key: "b", Call: 3, Ret: 4},
		{ID: 3, By: 1, Name: "get", Key: "a", Call: 5, Ret: 6, Val: number(5)},
		{ID: 4, By: 1, Name: "del", Call: 7, Ret: 8, Val: truth(0)},
	})
	expectOps(t, lines(
		`{"call":9,"by":1,"op":"enq","arg":5}`, `{"call":8,"by":2,"op":"deq"}`, `{"ret":8,"val":null}`, `{"call":7,"by":2,"op":"deq"}`, `{"ret":7,"val":5}`,
	), "queue", []api.Op{
		{ID: 9, By: 1, Name: "enq", Arg: 5, Call: 1},
		{ID: 8, By: 2, Name: "deq", Call: 2, Ret: 3},
		{ID: 7, By: 2, Name: "deq", Call: 4, Ret: 5, Val: number(5)},
	})
	expectOps(t, lines(
		`{"call":1,"by":1,"op":"add","key":"a"}`, `{"ret":1,"val":true}`, `{"call":2,"by":1,"op":"has","key":"a"}`, `{"ret":2,"val":true}`, `{"call":3,"by":1,"op":"rem","key":"a"}`, `{"ret":3,"val":false}`,
	), "set", []api.Op{
		{ID: 1, By: 1, Name: "add", Key: "a", Call: 1, Ret: 2, Val: truth(1)},
		{ID: 2, By: 1, Name: "has", Key: "a", Call: 3, Ret: 4, Val: truth(1)},
		{ID: 3, By: 1, Name: "rem", Key: "a", Call: 5, Ret: 6, Val: truth(0)},
	})
	expectOps(t, lines(
		`{"call":1,"by":1,"op":"acq"}`, `{"call":2,"by":2,"op":"rel"}`, `{"ret":2,"val":false}`, `{"ret":1,"val":true}`,
	), "lock", []api.Op{
		{ID: 1, By: 1, Name: "acq", Call: 1, Ret: 4, Val: truth(1)},
		{ID: 2, By: 2, Name: "rel", Call: 2, Ret: 3, Val: truth(0)},
	})
}

// P2: how a text is cut into lines.
func TestLines(t *testing.T) {
	const acquire = `{"call":1,"by":1,"op":"acq"}`
	want := []api.Op{{ID: 1, By: 1, Name: "acq", Call: 1}}
	expectOps(t, "", "lock", nil)
	expectOps(t, acquire, "lock", want)
	expectOps(t, acquire+"\n", "lock", want)
	expectOps(t, acquire+"\r\n", "lock", want)
	expectRefused(t, "\n", "lock", 1, api.Text)
	expectRefused(t, "\n"+acquire, "lock", 1, api.Text)
	expectRefused(t, acquire+"\n\n", "lock", 2, api.Text)
	expectRefused(t, acquire+"\n ", "lock", 2, api.Text)
	expectRefused(t, acquire+"\n\n"+`{"ret":1,"val":true}`, "lock", 2, api.Text)
	expectRefused(t, acquire+"\r"+`{"ret":1,"val":true}`, "lock", 1, api.Text)
	expectRefused(t, acquire+"\u2028"+`{"ret":1,"val":true}`, "lock", 1, api.Text)
	expectRefused(t, "{\"call\":1,\n\"by\":1,\"op\":\"acq\"}", "lock", 1, api.Text)
	expectRefused(t, "{\"call\":1,\"by\":1,\"op\":\"a\ncq\"}", "lock", 1, api.Text)
}

// P2: line 128 is the last; from 129 on nothing but Many is told.
func TestMany(t *testing.T) {
	var calls []string
	for i := range 130 {
		calls = append(calls, fmt.Sprintf(`{"call":%d,"by":%d,"op":"acq"}`, i, i))
	}
	full := lines(calls[:128]...)
	for _, text := range []string{full, full + "\n"} {
		ops, line, why, errno := linear.Read(text, "lock")
		if len(ops) != 128 || line != 0 || why != api.None || errno != api.OK || ops[127].Call != 128 || ops[127].ID != 127 {
			t.Errorf("128 lines: %d operations, %d, %d, %d", len(ops), line, why, errno)
		}
	}
	for _, more := range []string{calls[128], "\n", " ", "x", "{}", calls[0], "\xff", lines(calls[128:]...), strings.Repeat("\n", 10000), `{"ret":500,"val":true}`} {
		expectRefused(t, full+"\n"+more, "lock", 129, api.Many)
	}
	expectRefused(t, lines(calls[:127]...)+"\nx\nx", "lock", 128, api.Text)
	expectRefused(t, "x\n"+lines(calls...), "lock", 1, api.Text)
	returned := []string{}
	for i := range 64 {
		returned = append(returned, calls[i], fmt.Sprintf(`{"ret":%d,"val":true}`, i))
	}
	ops, line, why, _ := linear.Read(lines(returned...), "lock")
	if len(ops) != 64 || line != 0 || why != api.None || ops[63].Ret != 128 {
		t.Errorf("64 calls and returns: %d operations, %d, %d", len(ops), line, why)
	}
	expectRefused(t, lines(returned...)+"\n"+calls[64], "lock", 129, api.Many)
}

// P2: what an event may look like.
func TestText(t *testing.T) {
	expectOps(t, " \t\r{ \"exp\" : -9223372036854775808 ,\t\"op\"\r:\"\\u0063\\u0061s\", \"arg\":9223372036854775807,\"by\":-0,\"\\u0063all\":-1 } ", "register",
		[]api.Op{{ID: -1, Name: "cas", Arg: math.MaxInt64, Exp: math.MinInt64, Call: 1}})
	expectOps(t, `{"key":"\ud83d\ude00\u00e9\"\\\/\b\f\n\r\t\u0000\uFFFF","call":1,"by":1,"op":"has"}`, "set",
		[]api.Op{{ID: 1, By: 1, Name: "has", Key: "😀é\"\\/\b\f\n\r\t\x00\uffff", Call: 1}})
	expectOps(t, "{\"key\":\"😀é\ufffd\U0010ffff\x7f\",\"call\":1,\"by\":1,\"op\":\"has\"}", "set",
		[]api.Op{{ID: 1, By: 1, Name: "has", Key: "😀é\ufffd\U0010ffff\x7f", Call: 1}})
	for _, value := range []string{
		"9223372036854775808", "-9223372036854775809", "01", "-01", "00", "+1", "-", "1.0", "1e0", "0x1", "{}", "[]", "tru", "nul", "", `"`,
		`"\ud800"`, `"\udc00"`, `"\ud800\ud800"`, `"\ud800x"`, `"\u12g4"`, `"\a"`, "\"\x1f\"", "\"\t\"", "\"\x80\"", "\"\xed\xa0\x80\"", "\"\xc0\xaf\"", "\"\xf4\x90\x80\x80\"",
	} {
		expectRefused(t, `{"call":`+value+`,"by":1,"op":"acq"}`, "lock", 1, api.Text)
		expectRefused(t, `{"key":`+value+`}`, "set", 1, api.Text)
	}
}

// P2: an event is a call or a return, and nothing between.
func TestMembers(t *testing.T) {
	for _, text := range []string{
		`{}`, `{"":1}`, `{"call":1}`, `{"by":1}`, `{"op":"put"}`, `{"key":"a"}`, `{"ret":1}`, `{"val":1}`,
		`{"call":1,"by":1}`, `{"call":1,"op":"put"}`, `{"by":1,"op":"put"}`, `{"call":1,"by":1,"key":"a","arg":1}`,
		`{"Call":1,"by":1,"op":"get","key":"a"}`, `{"call ":1,"by":1,"op":"get","key":"a"}`,
		`{"call":1,"by":1,"op":"get","key":"a","x":1}`, `{"call":1,"by":1,"op":"get","key":"a","":null}`,
		`{"call":1,"by":1,"op":"get","key":"a","ret":1}`, `{"call":1,"by":1,"op":"get","key":"a","val":1}`, `{"call":1,"ret":1}`, `{"call":1,"val":null}`,
		`{"call":1,"by":1,"op":"get","key":"a","ret":1,"val":1}`,
		`{"ret":1,"val":1,"by":1}`, `{"ret":1,"val":1,"op":"get"}`, `{"ret":1,"val":1,"key":"a"}`, `{"ret":1,"val":1,"arg":1}`, `{"ret":1,"val":1,"exp":1}`, `{"ret":1,"val":1,"x":1}`,
		`{"call":1,"call":1,"by":1,"op":"get","key":"a"}`, `{"call":1,"by":1,"op":"get","op":"get","key":"a"}`, `{"call":1,"by":1,"op":"get","key":"a","\u006bey":"a"}`,
		`{"ret":1,"ret":1,"val":1}`, `{"ret":1,"val":1,"val":1}`, `{"ret":1,"val":1,"val":null}`,
		`{"ret":1,"val":"1"}`, `{"ret":1,"val":""}`,
	} {
		expectRefused(t, text, "kv", 1, api.Members)
	}
	for _, name := range []string{"call", "by", "op", "key", "arg", "exp", "ret", "val"} {
		for _, value := range []string{`1`, `"1"`, `true`, `false`, `null`} {
			if value == "1" && name != "op" && name != "key" || value == `"1"` && (name == "op" || name == "key") || name == "val" && value != `"1"` {
				continue // the kind that the member has
			}
			event := map[string]string{"call": "1", "by": "1", "op": `"put"`, "key": `"a"`, "arg": "1"}
			if name == "ret" || name == "val" {
				event = map[string]string{"ret": "1", "val": "1"}
			}
			event[name] = value
			expectRefused(t, object(event), "kv", 1, api.Members)
		}
	}
}

func object(members map[string]string) string {
	var parts []string
	for name, value := range members {
		parts = append(parts, `"`+name+`":`+value)
	}
	return "{" + strings.Join(parts, ",") + "}"
}

// P2: the members stand in any order.
func TestMembersInAnyOrder(t *testing.T) {
	parts := []string{`"call":1`, `"by":2`, `"op":"cas"`, `"arg":3`, `"exp":4`}
	want := []api.Op{{ID: 1, By: 2, Name: "cas", Arg: 3, Exp: 4, Call: 1, Ret: 2, Val: truth(1)}}
	var order func(done, left []string)
	order = func(done, left []string) {
		if len(left) == 0 {
			expectOps(t, "{"+strings.Join(done, ",")+"}\n"+`{"ret":1,"val":true}`, "register", want)
			expectOps(t, "{"+strings.Join(done, ",")+"}\n"+`{"val":true,"ret":1}`, "register", want)
		}
		for i := range left {
			rest := append(append([]string{}, left[:i]...), left[i+1:]...)
			order(append(done[:len(done):len(done)], left[i]), rest)
		}
	}
	order(nil, parts)
}

// What each operation needs and gives, by the document.
var operations = []struct {
	model, name string
	needs       string
	gives       []string
}{
	{"register", "read", "", []string{"1"}}, {"register", "write", "arg", []string{"null"}}, {"register", "cas", "arg exp", []string{"true"}},
	{"kv", "get", "key", []string{"1", "null"}}, {"kv", "put", "key arg", []string{"null"}}, {"kv", "del", "key", []string{"true"}},
	{"queue", "enq", "arg", []string{"null"}}, {"queue", "deq", "", []string{"1", "null"}},
	{"set", "add", "key", []string{"true"}}, {"set", "rem", "key", []string{"true"}}, {"set", "has", "key", []string{"true"}},
	{"lock", "acq", "", []string{"true"}}, {"lock", "rel", "", []string{"true"}},
}

// P2: Operation, for every operation, every choice of members, every model.
func TestOperation(t *testing.T) {
	for _, o := range operations {
		for _, has := range []string{"", "key", "arg", "exp", "key arg", "key exp", "arg exp", "key arg exp"} {
			event := map[string]string{"call": "1", "by": "1", "op": `"` + o.name + `"`}
			want := api.Op{ID: 1, By: 1, Name: o.name, Call: 1}
			for _, m := range strings.Fields(has) {
				switch m {
				case "key":
					event[m], want.Key = `"k"`, "k"
				case "arg":
					event[m], want.Arg = "5", 5
				case "exp":
					event[m], want.Exp = "6", 6
				}
			}
			for _, model := range models() {
				if model == o.model && has == o.needs {
					expectOps(t, object(event), model, []api.Op{want})
				} else {
					expectRefused(t, object(event), model, 1, api.Operation)
				}
			}
		}
	}
	for _, model := range models() {
		for _, name := range []string{"", "Read", "reads", " read", `\u0000`, "register", "no"} {
			expectRefused(t, `{"call":1,"by":1,"op":"`+name+`"}`, model, 1, api.Operation)
		}
	}
}

// P2: BadValue, for every operation and every kind of value.
func TestBadValue(t *testing.T) {
	for _, o := range operations {
		event := map[string]string{"call": "1", "by": "1", "op": `"` + o.name + `"`}
		for _, m := range strings.Fields(o.needs) {
			event[m] = map[string]string{"key": `"k"`, "arg": "5", "exp": "6"}[m]
		}
		for value, want := range map[string]api.Value{"1": number(1), "0": number(0), "null": {}, "true": truth(1), "false": truth(0)} {
			text := object(event) + "\n" + `{"ret":1,"val":` + value + `}`
			given := map[string]string{"0": "1", "false": "true"}[value]
			if given == "" {
				given = value
			}
			if !strings.Contains(" "+strings.Join(o.gives, " ")+" ", " "+given+" ") {
				expectRefused(t, text, o.model, 2, api.BadValue)
				continue
			}
			ops, line, why, _ := linear.Read(text, o.model)
			if line != 0 || why != api.None || len(ops) != 1 || ops[0].Ret != 2 || ops[0].Val != want {
				t.Errorf("Read(%q, %q) = %+v, %d, %d, want the value %+v", text, o.model, ops, line, why, want)
			}
		}
	}
}

// P2: Reused, Busy, NotOpen, and which is told where a line breaks several rules.
func TestReusedBusyNotOpen(t *testing.T) {
	const (
		read1   = `{"call":1,"by":1,"op":"read"}`
		return1 = `{"ret":1,"val":5}`
		read2   = `{"call":2,"by":2,"op":"read"}`
	)
	for _, c := range []struct {
		text string
		line int
		why  api.Reason
	}{
		{lines(read1, `{"call":1,"by":2,"op":"read"}`), 2, api.Reused},
		{lines(read1, return1, `{"call":1,"by":2,"op":"read"}`), 3, api.Reused},
		{lines(read1, return1, read1), 3, api.Reused},
		{lines(read1, read2, return1, `{"call":1,"by":3,"op":"write","arg":5}`), 4, api.Reused},
		{lines(`{"call":0,"by":1,"op":"read"}`, `{"call":-0,"by":2,"op":"read"}`), 2, api.Reused},
		{lines(read1, `{"call":3,"by":1,"op":"read"}`), 2, api.Busy},
		{lines(read1, read2, return1, `{"call":3,"by":2,"op":"read"}`), 4, api.Busy},
		{lines(read1, return1, `{"call":3,"by":1,"op":"read"}`, `{"call":4,"by":1,"op":"read"}`), 4, api.Busy},
		{lines(`{"call":5,"by":0,"op":"read"}`, `{"call":6,"by":-0,"op":"read"}`), 2, api.Busy},
		{return1, 1, api.NotOpen},
		{lines(read1, `{"ret":2,"val":5}`), 2, api.NotOpen},
		{lines(read1, `{"ret":-1,"val":5}`), 2, api.NotOpen},
		{lines(read1, return1, return1), 3, api.NotOpen},
		{lines(read1, return1, read2, return1), 4, api.NotOpen},
		{lines(return1, read1), 1, api.NotOpen},
		// Several rules at one line.
		{`{"x":1,"call":01}`, 1, api.Text},
		{`{"call":1,"call":1,"by":1`, 1, api.Text},
		{lines(read1, `{"ret":1,"ret":9,"val":"`), 2, api.Text},
		{`{"call":1,"by":1,"op":"nothing","x":1}`, 1, api.Members},
		{`{"call":1,"op":"nothing"}`, 1, api.Members},
		{lines(read1, `{"call":1,"by":"1","op":"read"}`), 2, api.Members},
		{`{"ret":1,"val":"x"}`, 1, api.Members},
		{lines(read1, `{"ret":9,"val":true,"x":1}`), 2, api.Members},
		{lines(read1, `{"call":1,"by":1,"op":"nothing"}`), 2, api.Operation},
		{lines(read1, `{"call":1,"by":2,"op":"write"}`), 2, api.Operation},
		{lines(read1, `{"call":3,"by":1,"op":"read","key":"a"}`), 2, api.Operation},
		{lines(read1, read1), 2, api.Reused},
		{lines(read1, return1, `{"call":2,"by":1,"op":"read"}`, `{"call":1,"by":1,"op":"read"}`), 4, api.Reused},
		{`{"ret":1,"val":null}`, 1, api.NotOpen},
		{lines(read1, return1, `{"ret":1,"val":true}`), 3, api.NotOpen},
		// The first line that breaks a rule, even if a later one breaks a rule with a lesser number.
		{lines(read1, `{"ret":1,"val":null}`, `x`), 2, api.BadValue},
		{lines(`{"ret":1,"val":null}`, `{}`, `x`), 1, api.NotOpen},
	} {
		expectRefused(t, c.text, "register", c.line, c.why)
	}
	expectOps(t, lines(read1, return1, `{"call":-1,"by":1,"op":"read"}`), "register",
		[]api.Op{{ID: 1, By: 1, Name: "read", Call: 1, Ret: 2, Val: number(5)}, {ID: -1, By: 1, Name: "read", Call: 3}})
	expectOps(t, lines(`{"call":9223372036854775807,"by":-9223372036854775808,"op":"read"}`, `{"call":-9223372036854775808,"by":9223372036854775807,"op":"read"}`, `{"val":-1,"ret":-9223372036854775808}`), "register",
		[]api.Op{{ID: math.MaxInt64, By: math.MinInt64, Name: "read", Call: 1}, {ID: math.MinInt64, By: math.MaxInt64, Name: "read", Call: 2, Ret: 3, Val: number(-1)}})
}

// P2: ErrModel stands ahead of whatever the text is; P1: nothing is told beside it.
func TestErrModel(t *testing.T) {
	for _, model := range []string{"", " ", "Register", "register ", "kv\x00", "read", "stack", "\xff", "-"} {
		for _, text := range []string{"", "\n", "x", `{"call":1,"by":1,"op":"read"}`, `{"ret":1,"val":5}`, strings.Repeat("\n", 200)} {
			ops, line, why, errno := linear.Read(text, model)
			if ops != nil || line != 0 || why != api.None || errno != api.ErrModel {
				t.Errorf("Read(%q, %q) = %v, %d, %d, %d", text, model, ops, line, why, errno)
			}
		}
	}
}

// The document's examples that are refused.
func TestRefusedExamples(t *testing.T) {
	expectRefused(t, lines(`{"call":1,"by":1,"op":"read"}`, `{"call":2,"by":1,"op":"read"}`), "register", 2, api.Busy)
	expectRefused(t, `{"ret":1,"val":5}`, "register", 1, api.NotOpen)
	expectRefused(t, `{"call":1,"by":1,"op":"read","arg":5}`, "register", 1, api.Operation)
	expectRefused(t, `{"call":1,"by":1}`, "register", 1, api.Members)
	expectRefused(t, `{"call":01}`, "register", 1, api.Text)
}

// P1: every call ends, none panics, whatever it is given, and says the same the next time.
func TestNoPanicAndTheSameAnswer(t *testing.T) {
	whole := lines(
		`{"call":1,"by":1,"op":"put","key":"\ud83d\ude00","arg":-5}`, `{"ret":1,"val":null}`,
		`{"call":2,"by":1,"op":"del","key":"é"}`, `{"ret":2,"val":false}`, "")
	texts := []string{"", "\x00", "\xff\xfe", strings.Repeat("{", 100000), strings.Repeat(`{"a":`, 100000), `{"` + strings.Repeat(`\u0041`, 100000) + `":1}`, `{"call":` + strings.Repeat("9", 100000) + `}`, strings.Repeat("\n", 100000)}
	for i := range len(whole) {
		texts = append(texts, whole[:i], whole[i:], whole[:i]+whole[i+1:], whole[:i]+"\xff"+whole[i:], whole[:i]+"\\"+whole[i:], whole[:i]+"\x00"+whole[i+1:])
	}
	for _, text := range texts {
		for _, model := range append(models(), "", text) {
			ops, line, why, errno := linear.Read(text, model)
			again, line2, why2, errno2 := linear.Read(text, model)
			if !reflect.DeepEqual(ops, again) || line != line2 || why != why2 || errno != errno2 {
				t.Errorf("Read(%.80q, %.80q) is not the same twice", text, model)
			}
			if (errno != api.OK || why != api.None) && len(ops) != 0 || (why == api.None) != (line == 0) || errno != api.OK && why != api.None {
				t.Errorf("Read(%.80q, %.80q) = %v, %d, %d, %d", text, model, ops, line, why, errno)
			}
		}
	}
}

// P1: what comes out is the caller's, and nothing is kept: not from call to call, not between calls at one time.
func TestNewMemory(t *testing.T) {
	text := lines(`{"call":1,"by":1,"op":"add","key":"a"}`, `{"ret":1,"val":true}`, `{"call":2,"by":1,"op":"has","key":"a"}`)
	want := []api.Op{{ID: 1, By: 1, Name: "add", Key: "a", Call: 1, Ret: 2, Val: truth(1)}, {ID: 2, By: 1, Name: "has", Key: "a", Call: 3}}
	var all sync.WaitGroup
	for range 8 {
		all.Go(func() {
			for range 50 {
				expectOps(t, text, "set", want)
				ops, _, _, _ := linear.Read(text, "set")
				clear(append(ops, api.Op{}))
				clear(ops)
			}
		})
	}
	all.Wait()
	expectOps(t, `{"call":2,"by":1,"op":"has","key":"b"}`, "set", []api.Op{{ID: 2, By: 1, Name: "has", Key: "b", Call: 1}})
}
