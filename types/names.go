package types

import "levy/api"

func isName(s string) bool {
	if len(s) < 1 || len(s) > api.MaxName || !isLetter(s[0]) {
		return false
	}
	for _, b := range []byte(s) {
		if !isLetter(b) && !isDigit(b) && b != '_' {
			return false
		}
	}
	return true
}

func isLetter(b byte) bool { return 'a' <= b && b <= 'z' }

func isDigit(b byte) bool { return '0' <= b && b <= '9' }

// isText tells whether a check may show a text.
func isText(s string) bool {
	if len(s) < 1 || len(s) > api.MaxText {
		return false
	}
	for _, b := range []byte(s) {
		if b < ' ' || b > '~' {
			return false
		}
	}
	return true
}
