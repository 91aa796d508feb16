package linear_test

import (
	"fmt"
	"math"
	"math/rand/v2"
	"strings"
	"testing"

	"linear/api"
	"linear/linear"
)

// P5, P6: what clients may see of one key, and of several.
func TestRunOfKeys(t *testing.T) {
	for _, c := range []struct{ model, words, wants string }{
		{"kv", "call 1 put a 5, ret 1 null, call 2 get a, ret 2 null", `ILLEGAL part="a" longest=1`},
		{"kv", "call 1 put a 5, call 2 get a, ret 2 null, ret 1 null", "OK order=2,1"},
		{"kv", "call 1 put a 0, ret 1 null, call 2 get a, ret 2 0", "OK order=1,2"},
		{"kv", "call 1 get a, ret 1 0", `ILLEGAL part="a" longest=`},
		{"kv", "call 1 del a, ret 1 true", `ILLEGAL part="a" longest=`},
		{"kv", "call 1 del a, ret 1 false, call 2 put a 0, ret 2 null, call 3 del a, ret 3 true, call 4 get a, ret 4 null", "OK order=1,2,3,4"},
		{"kv", "call 1 put a 5, call 2 del a, ret 2 true", "OK order=1,2"},
		{"kv", "call 1 put a 5, call 2 del a, call 3 get a, ret 3 5, call 4 get a, ret 4 null", "OK order=1,3,2,4"},
		{"kv", "call 1 put b 5, ret 1 null, call 2 get a, ret 2 5", `ILLEGAL part="a" longest=`},
		{"kv", "call 1 put b 5, call 2 del a, ret 2 true", `ILLEGAL part="a" longest=`},
		{"set", "call 1 add a, ret 1 false", `ILLEGAL part="a" longest=`},
		{"set", "call 1 add a, ret 1 true, call 2 add a, ret 2 false, call 3 rem a, ret 3 true, call 4 rem a, ret 4 false, call 5 has a, ret 5 false", "OK order=1,2,3,4,5"},
		{"set", "call 1 add a, call 2 has a, ret 2 true, call 3 has a, ret 3 false, ret 1 true", `ILLEGAL part="a" longest=1,2`},
		{"set", "call 1 add a, call 2 rem a, call 3 has a, ret 3 true, call 4 has a, ret 4 false", "OK order=1,3,2,4"},
		{"set", "call 1 add a, ret 1 true, call 2 has b, ret 2 true", `ILLEGAL part="b" longest=`},
		{"set", "call 1 add a, ret 1 true, call 2 add b, ret 2 true, call 3 has c, ret 3 false", "OK order=1,2,3"},
		{"set", "call 1 add c, ret 1 true, call 2 add b, ret 2 true, call 3 has a, ret 3 false", "OK order=1,2,3"},
	} {
		expectRun(t, textOf(c.words), c.model, 100000, strings.Split(c.wants, " or ")...)
	}
}

// P5: what is ahead of an operation with another key stands first, though either key's order would do by itself.
func TestRunOrdersAcrossKeys(t *testing.T) {
	for _, c := range []struct{ words, wants string }{
		{"call 1 put a 1, call 2 put b 1, ret 2 null, call 3 get a, ret 3 null, ret 1 null", "OK order=2,3,1"},
		{"call 1 put b 1, call 2 put a 1, ret 2 null, call 3 get b, ret 3 null, ret 1 null", "OK order=2,3,1"},
		{"call 1 put a 1, call 2 put b 2, call 3 get a, ret 3 null, call 4 get b, ret 4 2, call 5 get a, ret 5 1, ret 2 null, ret 1 null",
			"OK order=3,2,4,1,5 or OK order=2,3,4,1,5 or OK order=3,2,1,4,5 or OK order=2,3,1,4,5 or OK order=3,1,2,4,5"},
		{"call 1 put a 1, call 2 put b 2, call 3 get b, ret 3 null, call 4 get a, ret 4 1, call 5 get b, ret 5 2", "OK order=3,1,4,2,5 or OK order=1,3,4,2,5 or OK order=3,1,2,4,5 or OK order=1,3,2,4,5 or OK order=3,2,1,4,5"},
		{"call 1 put c 1, ret 1 null, call 2 put b 1, ret 2 null, call 3 put a 1, ret 3 null, call 4 put b 2, ret 4 null, call 5 put c 2, ret 5 null", "OK order=1,2,3,4,5"},
	} {
		expectRun(t, textOf(c.words), "kv", 100000, strings.Split(c.wants, " or ")...)
	}
}

// P6: of several keys the least is told, byte by byte, in whichever order they come.
func TestRunTellsTheLeastKey(t *testing.T) {
	keys := []string{``, `\u0000`, `\t`, `\n`, ` `, `!`, `\"`, `0`, `00`, `A`, `Z`, `\\`, `\u0061`, `aa`, `ab`, `b`, "\x7f", `é`, "\ue000", `\uffff`, `😀`}
	names := []string{`""`, `"\u0000"`, `"\u0009"`, `"\u000a"`, `" "`, `"!"`, `"\""`, `"0"`, `"00"`, `"A"`, `"Z"`, `"\\"`, `"a"`, `"aa"`, `"ab"`, `"b"`, "\"\x7f\"", `"é"`, "\"\ue000\"", "\"\uffff\"", `"😀"`}
	for i, name := range names {
		for j := range keys {
			first, second := keyFault(keys[i], 1), keyFault(keys[j], 2)
			if j > i {
				expectRun(t, lines(first, second), "set", 100000, "ILLEGAL part="+name+" longest=")
				expectRun(t, lines(second, first), "set", 100000, "ILLEGAL part="+name+" longest=")
			}
			fine := lines(fmt.Sprintf(`{"call":2,"by":2,"op":"has","key":"%s"}`, keys[j]), `{"ret":2,"val":false}`)
			if j != i {
				expectRun(t, lines(first, fine), "set", 100000, "ILLEGAL part="+name+" longest=")
				expectRun(t, lines(fine, first), "set", 100000, "ILLEGAL part="+name+" longest=")
			}
		}
	}
	var all []string
	for i := range keys {
		all = append(all, keyFault(keys[len(keys)-1-i], i))
	}
	for range 50 {
		expectRun(t, lines(all...), "set", 100000, `ILLEGAL part="" longest=`)
	}
}

// keyFault is a history of one key that can not be.
func keyFault(key string, id int) string {
	return lines(fmt.Sprintf(`{"call":%d,"by":%d,"op":"rem","key":"%s"}`, id, id, key), fmt.Sprintf(`{"ret":%d,"val":true}`, id))
}

// P6: each character of a key is told as it is, but for the quote, the backslash and the bytes below 32.
func TestRunTellsKeys(t *testing.T) {
	for _, c := range []rune{0x7e, 0x7f, 0x80, 0x9f, 0xe9, 0x2028, 0xd7ff, 0xe000, 0xfffd, 0xffff, 0x10000, 0x10ffff} {
		expectRun(t, keyFault("x"+string(c)+"y", 1), "set", 100, `ILLEGAL part="x`+string(c)+`y" longest=`)
	}
	for c := range rune(0x80) {
		want := string(c)
		switch {
		case c < 32:
			want = `\u00` + fmt.Sprintf("%02x", c)
		case c == '"' || c == '\\':
			want = `\` + want
		}
		expectRun(t, keyFault(fmt.Sprintf(`\u%04X`, c), 1), "set", 100, `ILLEGAL part="`+want+`" longest=`)
		expectRun(t, keyFault(fmt.Sprintf(`a\u%04xb\u%04x`, c, c), 1), "set", 100, `ILLEGAL part="a`+want+`b`+want+`" longest=`)
	}
	expectRun(t, keyFault(`\b\f\n\r\t\/\"\\`, 1), "set", 100, `ILLEGAL part="\u0008\u000c\u000a\u000d\u0009/\"\\" longest=`)
	expectRun(t, keyFault(`\ud83d\ude00`, 1), "set", 100, `ILLEGAL part="😀" longest=`)
	long := strings.Repeat(`\u001f`, 10000)
	expectRun(t, keyFault(long, 1), "set", 100, `ILLEGAL part="`+long+`" longest=`)
}

// P5, P6: a key is what its string means, however it is written; and no other key is like it.
func TestRunKnowsAKeyByItsMeaning(t *testing.T) {
	expectRun(t, textOf(`call 1 put a/ 5, ret 1 null, call 2 get \u0061\/, ret 2 5`), "kv", 100, "OK order=1,2")
	expectRun(t, textOf(`call 1 put \u00E9 5, ret 1 null, call 2 get é, ret 2 5`), "kv", 100, "OK order=1,2")
	empty := lines(`{"call":1,"by":1,"op":"put","key":"","arg":5}`, `{"ret":1,"val":null}`)
	expectRun(t, lines(empty, textOf("call 2 get a, ret 2 null")), "kv", 100, "OK order=1,2")
	expectRun(t, lines(empty, `{"call":2,"by":1,"op":"get","key":""}`, `{"ret":2,"val":5}`), "kv", 100, "OK order=1,2")
	for _, other := range []string{"A", "aa", `a\u0000`, `\u0000a`, `a\u0301`, "á", `\"a\"`} {
		expectRun(t, textOf(`call 1 put a 5, ret 1 null, call 2 get `+other+`, ret 2 null`), "kv", 100, "OK order=1,2")
	}
}

// P7: a history without keys has no part, and so no configuration: no budget is too little.
func TestRunOfNoKeys(t *testing.T) {
	for _, model := range []string{"kv", "set"} {
		for _, budget := range []int{0, 1, api.MaxBudget, math.MaxInt} {
			expectRun(t, "", model, budget, "OK order=")
		}
	}
}

// puts: pending puts of 1, 2 and so on at a key, by as many clients.
func puts(key string, count int) string {
	return strings.NewReplacer(`"write"`, `"put","key":"`+key+`"`).Replace(crowd(count))
}

// P7: the configurations of the parts are added, not multiplied; those of a key that is behind the told one count too, but need not be gone through.
func TestRunAddsUpTheParts(t *testing.T) {
	var out []string
	for n := range 64 {
		out = append(out, fmt.Sprintf(`{"call":%d,"by":%d,"op":"add","key":"%d"}`, n, n, n))
	}
	for n := range 64 {
		out = append(out, fmt.Sprintf(`{"ret":%d,"val":true}`, n))
	}
	expectOK(t, "set", lines(out...), linear.Run(lines(out...), "set", 2*(64+1)*64*2))
	out[127] = `{"ret":63,"val":false}`
	expectRun(t, lines(out...), "set", 2*(64+1)*(63*2+1), `ILLEGAL part="63" longest=`)

	// Ten pending puts and a get of none of them have 10 * 2^9 + 1 configurations; the other key has 2.
	const enough = 2 * (12 + 1) * (10*512 + 1 + 2)
	for _, other := range []string{"a", "c"} {
		text := lines(puts("b", 10), textOf("call 0 get b, ret 0 -1, call 100 get "+other+", ret 100 null"))
		for _, budget := range []int{enough, 2 * enough, math.MaxInt} {
			list, ok := strings.CutPrefix(linear.Run(text, "kv", budget), `ILLEGAL part="b" longest=`)
			if !ok || strings.Count(list, ",") != 9 {
				t.Errorf("ten puts with the budget %d: %q", budget, list)
			}
		}
		expectRun(t, text, "kv", 100, "UNKNOWN")
	}
}

// P4, P7: the budget, and MaxBudget, are for all parts together.
func TestRunSharesTheBudget(t *testing.T) {
	// One look at each put is enough; less is not.
	const text = "call 1 put a 1, call 2 put b 1, call 3 put c 1, ret 1 null, ret 2 null, ret 3 null"
	for budget := range 2 * (3 + 1) * 6 {
		if budget < 3 {
			expectRun(t, textOf(text), "kv", budget, "UNKNOWN")
		} else {
			expectOK(t, "kv", textOf(text), linear.Run(textOf(text), "kv", budget))
		}
	}
	hard := lines(puts("a", 60), textOf("call 0 get a, ret 0 -1, call 100 get b, ret 100 5"))
	for _, budget := range []int{api.MaxBudget, api.MaxBudget + 1, 1 << 40, math.MaxInt} {
		expectRun(t, hard, "kv", budget, "UNKNOWN")
	}
}

// aloneOf tells the events of a text that are of one key.
func aloneOf(t *testing.T, model, text, key string) string {
	t.Helper()
	ops, _, why, _ := linear.Read(text, model)
	if why != api.None {
		t.Fatalf("%s: Read refuses %q: %d", model, text, why)
	}
	all := strings.Split(text, "\n")
	keep := make([]bool, len(all))
	for _, op := range withKey(ops, key) {
		keep[op.Call-1] = true
		if op.Ret != 0 {
			keep[op.Ret-1] = true
		}
	}
	var out []string
	for i, line := range all {
		if keep[i] {
			out = append(out, line)
		}
	}
	return lines(out...)
}

func isOK(text, model string) bool {
	return strings.HasPrefix(linear.Run(text, model, api.MaxBudget), "OK ")
}

// P8: what is OK stays so when it is cut off behind a line, with or without the byte 10 there.
func TestRunOfBeginnings(t *testing.T) {
	for m, model := range models() {
		c := chance{rand.New(rand.NewPCG(uint64(m), 10)), model}
		cut := 0
		for range 600 {
			text := c.history(1+c.IntN(16), 1+c.IntN(4), 15)
			if !isOK(text, model) {
				continue
			}
			for at := range len(text) {
				if text[at] != '\n' {
					continue
				}
				if cut++; !isOK(text[:at], model) || !isOK(text[:at+1], model) {
					t.Errorf("%s: %q is not OK, but %q is", model, text[:at], text)
				}
			}
		}
		if cut < 500 {
			t.Errorf("%s: only %d beginnings", model, cut)
		}
	}
}

// P8: a history is OK just if that of each key alone is; and P6: the key that is told is the least of those that are not.
func TestRunOfEachKeyAlone(t *testing.T) {
	for m, model := range []string{"kv", "set"} {
		c := chance{rand.New(rand.NewPCG(uint64(m), 11)), model}
		yes, no := 0, 0
		for range 1500 {
			text := c.history(1+c.IntN(30), 1+c.IntN(4), 12)
			ops, _, _, _ := linear.Read(text, model)
			want := ""
			for _, key := range keysOf(ops) {
				if alone := aloneOf(t, model, text, key); !isOK(alone, model) {
					want = linear.Run(alone, model, api.MaxBudget)
					break
				}
			}
			got := linear.Run(text, model, api.MaxBudget)
			if want == "" {
				yes++
				expectOK(t, model, text, got)
				continue
			}
			no++
			if name, _, _ := strings.Cut(want, " longest="); !strings.HasPrefix(got, name+" longest=") {
				t.Errorf("%s: of %q: %q, but %q of the key alone", model, text, got, want)
			}
		}
		if yes < 300 || no < 300 {
			t.Errorf("%s: %d are linearizable, %d are not: the histories tell too little", model, yes, no)
		}
	}
}
