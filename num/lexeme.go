package num

// Prefix: the length of the longest decimal or hexadecimal lexeme at the text's head; 0, where none stands there.
func Prefix(s string) int {
	if isHex(s) {
		return hexEnd(s, 2)
	}
	return decimalEnd(s)
}

// isHex: does a hexadecimal lexeme stand at the head of s? Without a digit behind the x it is the decimal 0 that stands there.
func isHex(s string) bool {
	return len(s) > 2 && s[0] == '0' && lower(s[1]) == 'x' && isHexDigit(s[2])
}

// decimalEnd: the place behind the longest decimal lexeme at the head of s, or 0.
func decimalEnd(s string) int {
	whole := digitsEnd(s, 0)
	end := whole
	if whole < len(s) && s[whole] == '.' {
		end = digitsEnd(s, whole+1)
	}
	if whole == 0 && end < 2 { // nothing, or a point alone
		return 0
	}
	return exponentEnd(s, end)
}

// exponentEnd: the place behind the exponent that begins at the place at; at, where none begins.
func exponentEnd(s string, at int) int {
	if at == len(s) || lower(s[at]) != 'e' {
		return at
	}
	from := at + 1
	if from < len(s) && (s[from] == '+' || s[from] == '-') {
		from++
	}
	end := digitsEnd(s, from)
	if end == from {
		return at
	}
	return end
}

// digitsEnd: the place behind the decimal digits that begin at the place at.
func digitsEnd(s string, at int) int {
	for at < len(s) && isDigit(s[at]) {
		at++
	}
	return at
}

// hexEnd: the place behind the hexadecimal digits that begin at the place at.
func hexEnd(s string, at int) int {
	for at < len(s) && isHexDigit(s[at]) {
		at++
	}
	return at
}

func isDigit(b byte) bool {
	return b >= '0' && b <= '9'
}

func isHexDigit(b byte) bool {
	return isDigit(b) || lower(b) >= 'a' && lower(b) <= 'f'
}

// lower: the small letter of a letter. No byte but the two cases of a letter gives that letter.
func lower(b byte) byte {
	return b | 0x20
}

// isWord: is s the word, which is in small letters, with each letter in either case?
func isWord(s, word string) bool {
	if len(s) != len(word) {
		return false
	}
	for i := range len(s) {
		if lower(s[i]) != word[i] {
			return false
		}
	}
	return true
}
