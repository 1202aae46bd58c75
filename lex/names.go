package lex

// IsLabel: may s be a label's name?
func IsLabel(s string) bool {
	for i := range len(s) {
		if !isLater(s[i]) {
			return false
		}
	}
	return s != "" && isFirst(s[0])
}

// IsMetric: may s be a metric's name?
func IsMetric(s string) bool {
	for i := range len(s) {
		if !isLater(s[i]) && s[i] != ':' {
			return false
		}
	}
	return s != "" && !isDigit(s[0])
}

// Word: the keyword that s is, in small letters.
func Word(s string) (string, bool) {
	word := small(s)
	switch word {
	case "and", "bool", "by", "group_left", "group_right", "ignoring", "offset", "on", "or", "unless", "without":
		return word, true
	case "avg", "bottomk", "count", "count_values", "group", "max", "min", "quantile", "stddev", "stdvar", "sum", "topk":
		return word, true
	}
	return "", false
}

// small: s with its letters A to Z turned into a to z. No other rune is turned: there are some beyond ASCII whose small letter is one of a to z.
func small(s string) string {
	b := []byte(s)
	for i, c := range b {
		if c >= 'A' && c <= 'Z' {
			b[i] = c + 'a' - 'A'
		}
	}
	return string(b)
}

// isFirst: may a name begin with this byte?
func isFirst(c byte) bool {
	return c >= 'a' && c <= 'z' || c >= 'A' && c <= 'Z' || c == '_'
}

// isLater: may this byte stand in a name, behind its first one?
func isLater(c byte) bool {
	return isFirst(c) || isDigit(c)
}

func isDigit(c byte) bool {
	return c >= '0' && c <= '9'
}
