// Package sign: which bytes are signs of a text.
package sign

// Signs are the bytes from the first to the last one.
const (
	first = 32
	last  = 126
)

// Is: whether a byte is a sign.
func Is(b byte) bool { return b >= first && b <= last }

// All: whether each byte of a text is a sign.
func All(text string) bool {
	// Byte by byte: a range over the text would join bytes to runes.
	for i := range len(text) {
		if !Is(text[i]) {
			return false
		}
	}
	return true
}

// Each sign of a text, with its place, is handed to do.
func Each(text string, do func(at int, b byte)) {
	for i := range len(text) {
		do(i, text[i])
	}
}
