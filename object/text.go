package object

import "strings"

// The surrogates: a high one and a low one together stand for one character.
const (
	firstHigh  rune = 0xD800
	firstLow   rune = 0xDC00
	lastLow    rune = 0xDFFF
	firstPair  rune = 0x10000
	bitsOfHalf      = 10
)

func (s *scanner) text() (string, bool) {
	if !s.take('"') {
		return "", false
	}
	var b strings.Builder
	for {
		r := s.next()
		if r == '"' {
			return b.String(), true
		}
		if r < ' ' { // the end of the line is below it, too
			return "", false
		}
		if r == '\\' {
			escaped, ok := s.escape()
			if !ok {
				return "", false
			}
			r = escaped
		}
		b.WriteRune(r)
	}
}

// escape reads what stands behind a backslash.
func (s *scanner) escape() (rune, bool) {
	switch r := s.next(); r {
	case '"', '\\', '/':
		return r, true
	case 'b':
		return '\b', true
	case 'f':
		return '\f', true
	case 'n':
		return '\n', true
	case 'r':
		return '\r', true
	case 't':
		return '\t', true
	case 'u':
		return s.numbered()
	}
	return 0, false
}

// numbered reads what stands behind `\u`, with a second `\u` if the first is half of a character.
func (s *scanner) numbered() (rune, bool) {
	r, ok := s.fourDigits()
	if !ok || isLow(r) {
		return 0, false
	}
	if !isHigh(r) {
		return r, true
	}
	if !s.takeWord(`\u`) {
		return 0, false
	}
	low, ok := s.fourDigits()
	if !ok || !isLow(low) {
		return 0, false
	}
	return firstPair + (r-firstHigh)<<bitsOfHalf + (low - firstLow), true
}

func isHigh(r rune) bool { return r >= firstHigh && r < firstLow }

func isLow(r rune) bool { return r >= firstLow && r <= lastLow }

func (s *scanner) fourDigits() (rune, bool) {
	var n rune
	for range 4 {
		d, ok := hexDigit(s.next())
		if !ok {
			return 0, false
		}
		n = n*16 + d
	}
	return n, true
}

func hexDigit(r rune) (rune, bool) {
	switch {
	case r >= '0' && r <= '9':
		return r - '0', true
	case r >= 'a' && r <= 'f':
		return r - 'a' + 10, true
	case r >= 'A' && r <= 'F':
		return r - 'A' + 10, true
	}
	return 0, false
}
