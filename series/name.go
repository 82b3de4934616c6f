package series

import "retag/api"

// IsName tells whether a text may name a label.
func IsName(text string) bool {
	if text == "" || len(text) > api.MaxName || isDigit(text[0]) {
		return false
	}
	for i := range len(text) {
		if !isLetter(text[i]) && !isDigit(text[i]) && text[i] != '_' {
			return false
		}
	}
	return true
}

func isLetter(b byte) bool {
	return b >= 'a' && b <= 'z' || b >= 'A' && b <= 'Z'
}

func isDigit(b byte) bool {
	return b >= '0' && b <= '9'
}
