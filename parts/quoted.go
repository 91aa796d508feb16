package parts

import "strings"

const (
	hexDigits = "0123456789abcdef"
	// firstPlain is the first byte that stands for itself: with those below it a key would not stay on one line.
	firstPlain = ' '
)

// quoted tells a key as a string between two `"`.
func quoted(key string) string {
	var b strings.Builder
	b.WriteByte('"')
	for _, c := range []byte(key) {
		switch {
		case c == '"' || c == '\\':
			b.WriteByte('\\')
			b.WriteByte(c)
		case c < firstPlain:
			b.WriteString(`\u00`)
			b.WriteByte(hexDigits[c>>4])
			b.WriteByte(hexDigits[c&15])
		default:
			b.WriteByte(c)
		}
	}
	b.WriteByte('"')
	return b.String()
}
