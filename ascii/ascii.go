// Package ascii classifies bytes and compares ASCII text without regard to case.
// Strings may contain arbitrary bytes; a byte from 0x80 on is never interpreted.
package ascii

// IsToken reports whether b is a token character of RFC 9110.
func IsToken(b byte) bool {
	switch {
	case 'a' <= b && b <= 'z', isUpper(b), isDigit(b):
		return true
	}
	switch b {
	case '!', '#', '$', '%', '&', '\'', '*', '+', '-', '.', '^', '_', '`', '|', '~':
		return true
	}
	return false
}

// IsBlank reports whether b is a space or a horizontal tab.
func IsBlank(b byte) bool {
	switch b {
	case ' ', '\t':
		return true
	}
	return false
}

// IsSpace reports whether b is a blank, a line feed, a form feed or a carriage return.
// A vertical tab is not a space, unlike in package unicode.
func IsSpace(b byte) bool {
	switch b {
	case ' ', '\t', '\n', '\f', '\r':
		return true
	}
	return false
}

// Lower returns s with each ASCII upper-case letter replaced by the lower-case one.
func Lower(s string) string {
	lower := make([]byte, len(s))
	for i := range len(s) {
		lower[i] = lowerByte(s[i])
	}
	return string(lower)
}

// EqualFold reports whether a and b are equal without regard to the case of ASCII letters.
func EqualFold(a, b string) bool {
	if len(a) != len(b) {
		return false
	}
	for i := range len(a) {
		if lowerByte(a[i]) != lowerByte(b[i]) {
			return false
		}
	}
	return true
}

// Trim returns s without the blanks at its beginning and at its end.
func Trim(s string) string {
	start, end := 0, len(s)
	for start < end && IsBlank(s[start]) {
		start++
	}
	for start < end && IsBlank(s[end-1]) {
		end--
	}
	// A copy, because a part of s would keep all of s in memory.
	trimmed := make([]byte, end-start)
	copy(trimmed, s[start:end])
	return string(trimmed)
}

// Words returns the maximal non-empty substrings of s without spaces, in order.
func Words(s string) []string {
	var words []string
	i := 0
scan:
	for {
		for ; ; i++ {
			if i == len(s) {
				break scan
			}
			if !IsSpace(s[i]) {
				break
			}
		}
		var word []byte
		for ; i < len(s) && !IsSpace(s[i]); i++ {
			word = append(word, s[i])
		}
		words = append(words, string(word))
	}
	return words
}

// Digits reports whether s is not empty and consists of digits.
func Digits(s string) bool {
	for i := range len(s) {
		if !isDigit(s[i]) {
			return false
		}
	}
	return s != ""
}

func isUpper(b byte) bool { return 'A' <= b && b <= 'Z' }

func isDigit(b byte) bool { return '0' <= b && b <= '9' }

func lowerByte(b byte) byte {
	if isUpper(b) {
		return b + ('a' - 'A')
	}
	return b
}
