package object

import (
	"encoding/json"
	"math/big"
	"reflect"
	"regexp"
	"strings"
	"testing"
	"unicode/utf8"

	"linear/api"
)

func str(text string) Value { return Value{Value: api.Value{Kind: String}, Text: text} }

func num(n int64) Value { return plain(api.Int, n) }

func TestValues(t *testing.T) {
	for _, c := range []struct {
		value string
		want  Value
	}{
		{`0`, num(0)}, {`-0`, num(0)}, {`7`, num(7)}, {`-10`, num(-10)},
		{`9223372036854775807`, num(9223372036854775807)},
		{`-9223372036854775808`, num(-9223372036854775808)},
		{`true`, plain(api.Bool, 1)}, {`false`, plain(api.Bool, 0)}, {`null`, plain(api.Null, 0)},
		{`""`, str("")}, {`"a b"`, str("a b")}, {`" "`, str(" ")}, {"\"\x7f\"", str("\x7f")},
		{`"{},:"`, str("{},:")}, {`"true"`, str("true")},
		{`"é€😀"`, str("é€😀")}, {"\"\u0080\u07ff\u0800\ud7ff\ue000\ufffd\uffff\U00010000\U0010ffff\"", str("\u0080\u07ff\u0800\ud7ff\ue000\ufffd\uffff\U00010000\U0010ffff")},
		{`"\"\\\/\b\f\n\r\t"`, str("\"\\/\b\f\n\r\t")},
		{`"\u0000"`, str("\x00")}, {`"\u000a"`, str("\n")}, {`"\u0022"`, str("\"")}, {`"\u005c\u0075"`, str(`\u`)},
		{`"\u00e9\u20AC"`, str("é€")}, {`"\uabcd\uABCD\uAbCd"`, str("\uabcd\uabcd\uabcd")},
		{`"\ud7ff\ue000\ufffd\uffff"`, str("\ud7ff\ue000\ufffd\uffff")},
		{`"\ud83d\ude00"`, str("😀")}, {`"\uD83D\uDE00"`, str("😀")},
		{`"\ud800\udc00"`, str("\U00010000")}, {`"\ud800\udfff"`, str("\U000103ff")},
		{`"\udbff\udc00"`, str("\U0010fc00")}, {`"\udbff\udfff"`, str("\U0010ffff")},
		{`"\u00411"`, str("A1")},
	} {
		got, ok := Read(`{"x":` + c.value + `}`)
		want := []Member{{"x", c.want}}
		if !ok || !reflect.DeepEqual(got, want) {
			t.Errorf("value %s: %+v, %v, want %+v", c.value, got, ok, want)
		}
		if !strings.HasPrefix(c.value, `"`) {
			continue
		}
		got, ok = Read(`{` + c.value + `:null}`)
		want = []Member{{c.want.Text, plain(api.Null, 0)}}
		if !ok || !reflect.DeepEqual(got, want) {
			t.Errorf("name %s: %+v, %v, want %+v", c.value, got, ok, want)
		}
	}
}

func TestObjects(t *testing.T) {
	two := []Member{{"b", num(1)}, {"a", str("x")}}
	for _, c := range []struct {
		line string
		want []Member
	}{
		{`{}`, nil}, {" \t\r{ \t\r} \t\r", nil}, {"\r\r{\t\t}  ", nil},
		{`{"b":1,"a":"x"}`, two},
		{" { \"b\" : 1 , \"a\" : \"x\" } ", two},
		{"\t{\t\"b\"\t:\t1\t,\t\"a\"\t:\t\"x\"\t}\t", two},
		{"\r{\r\"b\"\r:\r1\r,\r\"a\"\r:\r\"x\"\r}\r", two},
		{`{"a":1,"a":null}`, []Member{{"a", num(1)}, {"a", plain(api.Null, 0)}}},
	} {
		got, ok := Read(c.line)
		if !ok || len(got) != len(c.want) || len(got) > 0 && !reflect.DeepEqual(got, c.want) {
			t.Errorf("Read(%q) = %+v, %v, want %+v", c.line, got, ok, c.want)
		}
	}
}

func TestNoObjects(t *testing.T) {
	for _, line := range []string{
		"", " ", "x", "null", "1", `""`, "[]", "{", "}", "{}}", "{{}}", "{}{}", "{},", "{} x", "{\x00}", "{}\x00",
		"{\n}", "\v{}", "\f{}", "\u00a0{}", "\ufeff{}", "{\u2028}",
		`{,}`, `{"a":1,}`, `{,"a":1}`, `{"a":1,,"b":2}`, `{"a":1 "b":2}`, `{"a":1;"b":2}`, `{"a":1`, `{"a":1,`, `{"a":1,"b"`,
		`{"a"}`, `{"a":}`, `{"a" 1}`, `{"a"::1}`, `{:1}`, `{a:1}`, `{'a':1}`, `{1:1}`, `{null:1}`, `{"a":b}`,
		`{"a":{}}`, `{"a":[]}`, `{"a":[1]}`,
		`{"a":01}`, `{"a":00}`, `{"a":-01}`, `{"a":-}`, `{"a":- 1}`, `{"a":--1}`, `{"a":+1}`, `{"a":1.0}`, `{"a":.1}`, `{"a":1e1}`, `{"a":1E1}`, `{"a":0x1}`, `{"a":1_0}`, `{"a":1 0}`, `{"a":٣}`,
		`{"a":9223372036854775808}`, `{"a":-9223372036854775809}`, `{"a":18446744073709551616}`, `{"a":100000000000000000000000}`, `{"a":` + strings.Repeat("1", 5000) + `}`,
		`{"a":tru}`, `{"a":truee}`, `{"a":True}`, `{"a":TRUE}`, `{"a":t}`, `{"a":fals}`, `{"a":falsee}`, `{"a":nul}`, `{"a":nulll}`, `{"a":nil}`, `{"a":NaN}`,
		`{"a`, `{"a\`, `{"a\"`, `{"a":"`, `{"a":"\u`, `{"a":"\u00`, `{"a":"\ud83d`, `{"a":"\ud83d\`, `{"a":"\ud83d\u`,
		`{"\a":1}`, `{"\v":1}`, `{"\x41":1}`, `{"\0":1}`, `{"\'":1}`, `{"\U0041":1}`, `{"\N":1}`, `{"\ ":1}`,
		`{"\u":1}`, `{"\u1":1}`, `{"\u123":1}`, `{"\u123g":1}`, `{"\u123G":1}`, `{"\u123/":1}`, `{"\u123:":1}`, `{"\u123@":1}`, "{\"\\u123`\":1}", `{"\u 123":1}`, `{"\u-123":1}`, `{"\u+123":1}`, `{"\u{41}":1}`, `{"\u١٢٣٤":1}`,
		`{"\ud800":1}`, `{"\udbff":1}`, `{"\udc00":1}`, `{"\udfff":1}`, `{"\udc00\ud800":1}`, `{"\ud800\ud800":1}`, `{"\ud800\ue000":1}`, `{"\ud800\udbff":1}`, `{"\ud800\u0041":1}`, `{"\ud800x\udc00":1}`, `{"\ud800 \udc00":1}`, `{"\ud800\n\udc00":1}`, `{"\ud800\Udc00":1}`, `{"\ud800udc00":1}`, `{"\ud800\udc0":1}`, `{"\ud800\udc00\udc00":1}`,
		"{\"\x00\":1}", "{\"\x1f\":1}", "{\"\t\":1}", "{\"\r\":1}", "{\"\n\":1}",
		"{\"\x80\":1}", "{\"\xff\":1}", "{\"\xc3\":1}", "{\"\xc3(\":1}", "{\"\xe2\x82\":1}", "{\"\xf0\x9f\x98\":1}",
		"{\"\xc0\x80\":1}", "{\"\xc1\xbf\":1}", "{\"\xe0\x80\x80\":1}", "{\"\xe0\x9f\xbf\":1}", "{\"\xf0\x80\x80\x80\":1}", "{\"\xf0\x8f\xbf\xbf\":1}",
		"{\"\xed\xa0\x80\":1}", "{\"\xed\xbf\xbf\":1}", "{\"\xed\xa0\xbd\xed\xb8\x80\":1}",
		"{\"\xf4\x90\x80\x80\":1}", "{\"\xf5\x80\x80\x80\":1}", "{\"\xf8\x88\x80\x80\x80\":1}",
		"\x80{}", "{}\xff", "{\xc3\xa9}",
	} {
		if got, ok := Read(line); ok || got != nil {
			t.Errorf("Read(%.80q) = %+v, %v", line, got, ok)
		}
	}
}

// The grammar again, as one expression, so that two readings of the document stand against each other.
const (
	blankForm   = `[ \t\r]*`
	textForm    = `"(?:[^"\\\x00-\x1f]|\\["\\/bfnrt]|\\u(?:[0-9a-cA-CefEF][0-9a-fA-F]{3}|[dD][0-7][0-9a-fA-F]{2})|\\u[dD][89abAB][0-9a-fA-F]{2}\\u[dD][c-fC-F][0-9a-fA-F]{2})*"`
	integerForm = `-?(?:0|[1-9][0-9]*)`
	memberForm  = textForm + blankForm + `:` + blankForm + `(?:` + textForm + `|` + integerForm + `|true|false|null)` + blankForm
	objectForm  = `^` + blankForm + `\{` + blankForm + `(?:` + memberForm + `(?:,` + blankForm + memberForm + `)*)?\}` + blankForm + `$`
)

var (
	objectExpression  = regexp.MustCompile(objectForm)
	textOrInteger     = regexp.MustCompile(textForm + `|` + integerForm)
	integerExpression = regexp.MustCompile(`^` + integerForm + `$`)
)

func isObject(line string) bool {
	if !utf8.ValidString(line) || !objectExpression.MatchString(line) {
		return false
	}
	for _, s := range textOrInteger.FindAllString(line, -1) {
		if !integerExpression.MatchString(s) {
			continue
		}
		if n, ok := new(big.Int).SetString(s, 10); !ok || !n.IsInt64() {
			return false
		}
	}
	return true
}

func check(t *testing.T, line string) {
	t.Helper()
	got, ok := Read(line)
	if ok != isObject(line) {
		t.Errorf("Read(%q): %v, but the grammar says %v", line, ok, !ok)
	}
	if ok {
		checkMembers(t, line, got)
	}
}

func checkMembers(t *testing.T, line string, got []Member) {
	t.Helper()
	var want map[string]any
	decoder := json.NewDecoder(strings.NewReader(line))
	decoder.UseNumber()
	if err := decoder.Decode(&want); err != nil {
		t.Errorf("%q is JSON, too: %v", line, err)
	}
	seen := map[string]Value{}
	for _, m := range got {
		seen[m.Name] = m.Value
	}
	for name, v := range want {
		if !same(seen[name], v) {
			t.Errorf("Read(%q): %q is %+v, want %v", line, name, seen[name], v)
		}
	}
	if len(seen) != len(want) {
		t.Errorf("Read(%q): %d names, want %d", line, len(seen), len(want))
	}
}

func same(got Value, want any) bool {
	switch w := want.(type) {
	case string:
		return got == str(w)
	case bool:
		return got.Kind == api.Bool && (got.N == 1) == w && got.Text == ""
	case nil:
		return got == plain(api.Null, 0)
	case json.Number:
		n, ok := new(big.Int).SetString(string(w), 10)
		return ok && got == num(n.Int64())
	}
	return false
}

// Each way of leaving out, putting in and changing one byte of a line is held against the grammar.
func TestNearMisses(t *testing.T) {
	const pieces = "{}\",:\\/-0129truefalsnbdu89abcDEF \t\r\n\v\x00\x1f\x7f\x80\xa0\xc3\xed\xf4\xff.+eEx[]'"
	for _, line := range []string{
		`{}`, ` { "a" : 1 , "b" : "x" } `, `{"call":-10,"by":0,"op":"read"}`,
		`{"a":true,"b":false,"c":null}`, `{"\u00e9\ud83d\ude00\n":"\\\"\/"}`, `{"é😀":"\udbff\udfff"}`,
		`{"a":9223372036854775807,"b":-9223372036854775808}`,
	} {
		check(t, line)
		for i := 0; i <= len(line); i++ {
			check(t, line[:i])
			check(t, line[i:])
			for _, p := range []byte(pieces) {
				check(t, line[:i]+string([]byte{p})+line[i:])
				if i < len(line) {
					check(t, line[:i]+string([]byte{p})+line[i+1:])
				}
			}
			if i < len(line) {
				check(t, line[:i]+line[i+1:])
			}
		}
	}
}

func TestShortLines(t *testing.T) {
	pieces := []string{"{", "}", `"`, `"a"`, ":", ",", " ", "0", "1", "-", "null", "\\u", "d800"}
	lines := []string{""}
	for range 5 {
		var longer []string
		for _, l := range lines {
			for _, p := range pieces {
				longer = append(longer, l+p)
				check(t, l+p)
			}
		}
		lines = longer
	}
}

func TestEveryEscapedNumber(t *testing.T) {
	const digits = "0123456789abcdef"
	for n := range 0x10000 {
		hex := string([]byte{digits[n>>12], digits[n>>8&15], digits[n>>4&15], digits[n&15]})
		got, ok := Read(`{"\u` + hex + `":null}`)
		surrogate := n >= 0xD800 && n <= 0xDFFF
		if ok == surrogate || ok && got[0].Name != string(rune(n)) {
			t.Fatalf("\\u%s: %+v, %v", hex, got, ok)
		}
	}
}
