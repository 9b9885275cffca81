package words

// The classes of bytes, one bit each, so that several can be asked for at once. A byte of none of them begins no word.
const (
	blank = 1 << iota
	feed
	remark
	letter
	under
	digit
	quote
	beyond // no byte at all: the text has ended
)

var classes = [128]uint8{
	'\t': blank, ' ': blank, '\n': feed, '#': remark, '_': under, '"': quote,
	'0': digit, '1': digit, '2': digit, '3': digit, '4': digit, '5': digit, '6': digit, '7': digit, '8': digit, '9': digit,
	'a': letter, 'b': letter, 'c': letter, 'd': letter, 'e': letter, 'f': letter, 'g': letter, 'h': letter, 'i': letter,
	'j': letter, 'k': letter, 'l': letter, 'm': letter, 'n': letter, 'o': letter, 'p': letter, 'q': letter, 'r': letter,
	's': letter, 't': letter, 'u': letter, 'v': letter, 'w': letter, 'x': letter, 'y': letter, 'z': letter,
}

// The signs; one that begins with another stands ahead of it, so that the longest is met first.
var signs = [...]string{"!=", "<=", ">=", "<", ">", "=", "(", ")", ",", ":", ".", "+", "-", "*", "/"}

// class tells a rune's class. (A byte that is no rune's comes as one above 127, and so has none.)
func class(r rune) uint8 {
	if int(r) >= len(classes) {
		return 0
	}
	return classes[r]
}

func classAt(text string, at int) uint8 {
	if at >= len(text) {
		return beyond
	}
	return class(rune(text[at]))
}

// shown tells whether a rune may stand between quotes.
func shown(r rune) bool { return ' ' <= r && r <= '~' }

// begin tells where, from a place on, blanks and remarks end: at a word, a line feed or the text's end.
func begin(text string, at int) int {
	start, remarked := len(text), false
pass:
	for i, r := range text[at:] {
		switch c := class(r); {
		case c == remark:
			remarked = true
		case c == feed, c != blank && !remarked:
			start = at + i
			break pass
		}
	}
	return start
}

// runEnd tells where, from a place on, bytes of some classes end.
func runEnd(text string, at int, of uint8) int {
	end := at
run:
	for i, r := range text[at:] {
		switch {
		case class(r)&of != 0:
			end = at + i + 1
		default:
			break run
		}
	}
	return end
}
