package models

// none is the text of a Perhaps without a number.
const none = "-"

// Perhaps is a number, or none; then N is 0, so that all without a number are equal.
type Perhaps struct {
	There bool
	N     int64
}

func (p Perhaps) text() string {
	if !p.There {
		return none
	}
	return decimal(p.N)
}

func parsePerhaps(text string) (Perhaps, bool) {
	if text == none {
		return Perhaps{}, true
	}
	n, ok := parseDecimal(text)
	return Perhaps{There: ok, N: n}, ok
}
