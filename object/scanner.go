package object

import "strconv"

// end is what peek and next answer behind the last rune: no character has this number.
const end rune = -1

// scanner goes over the runes of a line, once, from the first to the last.
type scanner struct {
	runes []rune
	at    int
}

func (s *scanner) peek() rune {
	if s.at < len(s.runes) {
		return s.runes[s.at]
	}
	return end
}

func (s *scanner) next() rune {
	r := s.peek()
	if r != end {
		s.at++
	}
	return r
}

func (s *scanner) take(r rune) bool {
	if s.peek() != r {
		return false
	}
	s.at++
	return true
}

func (s *scanner) takeWord(word string) bool {
	for _, r := range word {
		if !s.take(r) {
			return false
		}
	}
	return true
}

func (s *scanner) skipBlanks() {
	for s.take(' ') || s.take('\t') || s.take('\r') {
	}
}

func (s *scanner) skipDigits() {
	for s.peek() >= '0' && s.peek() <= '9' {
		s.at++
	}
}

func (s *scanner) integer() (int64, bool) {
	start := s.at
	s.take('-')
	// Nothing may stand behind a first 0: a digit there is left over, and fits nowhere.
	if !s.take('0') {
		s.skipDigits()
	}
	n, err := strconv.ParseInt(string(s.runes[start:s.at]), 10, 64)
	if err != nil {
		return 0, false
	}
	return n, true
}
