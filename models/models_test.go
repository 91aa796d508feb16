package models

import (
	"strings"
	"testing"

	"linear/api"
)

// The table of the document once more, in words.
var document = map[string]map[string]string{
	"register": {"read": "gives int", "write": "arg gives null", "cas": "exp arg gives bool"},
	"kv":       {"get": "key gives int null", "put": "key arg gives null", "del": "key gives bool"},
	"queue":    {"enq": "arg gives null", "deq": "gives int null"},
	"set":      {"add": "key gives bool", "rem": "key gives bool", "has": "key gives bool"},
	"lock":     {"acq": "gives bool", "rel": "gives bool"},
}

func TestKnown(t *testing.T) {
	for model := range document {
		if !Known(model) {
			t.Errorf("%q is a model", model)
		}
	}
	for _, model := range []string{"", " ", "Register", "register ", "reg", "kvs", "read", "-", "lock\n", "\x00"} {
		if Known(model) {
			t.Errorf("%q is no model", model)
		}
	}
}

func TestEachModelHasItsOperationsAndNoOthers(t *testing.T) {
	for model, own := range document {
		for _, operations := range document {
			for name := range operations {
				_, want := own[name]
				o, ok := Find(model, name)
				if ok != want || ok && (o.Model != model || o.Name != name) || !ok && o != (Operation{}) {
					t.Errorf("Find(%q, %q) = %+v, %v", model, name, o, ok)
				}
			}
		}
		for _, name := range []string{"", "Read", "read ", "x", model + "x"} {
			if o, ok := Find(model, name); ok || o != (Operation{}) {
				t.Errorf("Find(%q, %q) = %+v, %v", model, name, o, ok)
			}
		}
	}
	if o, ok := Find("", "read"); ok || o != (Operation{}) {
		t.Errorf("an operation of no model: %+v, %v", o, ok)
	}
}

func TestNeedsAndGives(t *testing.T) {
	for model, operations := range document {
		for name, words := range operations {
			o, _ := Find(model, name)
			needs, gives, _ := strings.Cut(words, "gives")
			for word, m := range map[string]Members{"key": Key, "arg": Arg, "exp": Exp} {
				if (o.Needs&m != 0) != strings.Contains(needs, word) {
					t.Errorf("%s %s: %s", model, name, word)
				}
			}
			for word, kind := range map[string]int{"null": api.Null, "int": api.Int, "bool": api.Bool} {
				if o.MayGive(kind) != strings.Contains(gives, word) {
					t.Errorf("%s %s gives %s: %v", model, name, word, o.MayGive(kind))
				}
			}
			for _, kind := range []int{-1, 3, 8, 64, 256} {
				if o.MayGive(kind) {
					t.Errorf("%s %s gives the kind %d", model, name, kind)
				}
			}
		}
	}
}
