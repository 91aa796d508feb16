// Package object reads one line of a history as an object: a list of named values.
package object

import (
	"unicode/utf8"

	"linear/api"
)

// String is the kind of a value that is a string, beside api.Null, api.Int and api.Bool.
const String = 3

// Value is what stands behind a name; Text is empty but for the kind String.
type Value struct {
	api.Value
	Text string
}

// Member is a name and its value.
type Member struct {
	Name  string
	Value Value
}

// Read tells the members in the order in which they stand, a name twice if it stands twice;
// or false, if the line is no object.
func Read(line string) ([]Member, bool) {
	// Once the line is runes, a broken byte could not be told from the character FFFD.
	if !utf8.ValidString(line) {
		return nil, false
	}
	s := scanner{runes: []rune(line)}
	s.skipBlanks()
	members, ok := s.object()
	s.skipBlanks()
	if !ok || s.at < len(s.runes) {
		return nil, false
	}
	return members, true
}

func (s *scanner) object() ([]Member, bool) {
	if !s.take('{') {
		return nil, false
	}
	s.skipBlanks()
	if s.take('}') {
		return nil, true
	}
	var members []Member
	for {
		m, ok := s.member()
		if !ok {
			return nil, false
		}
		members = append(members, m)
		if s.take('}') {
			return members, true
		}
		if !s.take(',') {
			return nil, false
		}
		s.skipBlanks()
	}
}

func (s *scanner) member() (Member, bool) {
	name, ok := s.text()
	if !ok {
		return Member{}, false
	}
	s.skipBlanks()
	if !s.take(':') {
		return Member{}, false
	}
	s.skipBlanks()
	v, ok := s.value()
	if !ok {
		return Member{}, false
	}
	s.skipBlanks()
	return Member{Name: name, Value: v}, true
}

func (s *scanner) value() (Value, bool) {
	switch s.peek() {
	case '"':
		text, ok := s.text()
		return Value{Value: api.Value{Kind: String}, Text: text}, ok
	case 't':
		return plain(api.Bool, 1), s.takeWord("true")
	case 'f':
		return plain(api.Bool, 0), s.takeWord("false")
	case 'n':
		return plain(api.Null, 0), s.takeWord("null")
	}
	n, ok := s.integer()
	return plain(api.Int, n), ok
}

func plain(kind int, n int64) Value {
	return Value{Value: api.Value{Kind: kind, N: n}}
}
