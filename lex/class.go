package lex

// A class says of a character whether it is one of those that are meant. All classes but that of a comment's
// characters have only characters of one byte, so that a byte, as a rune, can be asked about, too.
type class func(r rune) bool

// between returns the class of the characters from first to last.
func between(first, last rune) class {
	return func(r rune) bool { return first <= r && r <= last }
}

// oneOf returns the class of the characters of set.
func oneOf(set string) class {
	return func(r rune) bool {
		for _, x := range set {
			if x == r {
				return true
			}
		}
		return false
	}
}

// either returns the class of the characters that are in one of these classes.
func either(classes ...class) class {
	return func(r rune) bool {
		for _, in := range classes {
			if in(r) {
				return true
			}
		}
		return false
	}
}

// lowers, uppers and letters are the classes of the letters, digits that of the decimal digits.
func lowers() class  { return between('a', 'z') }
func uppers() class  { return between('A', 'Z') }
func letters() class { return either(lowers(), uppers()) }
func digits() class  { return between('0', '9') }

// tails is the class of the characters that may follow the first letter of a name.
func tails() class { return either(letters(), digits(), oneOf("_'")) }

// operators is the class of the characters of operators.
func operators() class { return oneOf("!$%&*+-/:<=>?@^|") }

// span returns the first position of s from at on whose character is not in the class; len(s) if there is none.
func span(s string, at int, in class) int {
	for i, r := range s[at:] {
		if !in(r) {
			return at + i
		}
	}
	return len(s)
}

// isWord reports whether s is a character of the class first, followed by any number of those of the class rest.
func isWord(s string, first, rest class) bool {
	return s != "" && first(rune(s[0])) && span(s, 1, rest) == len(s)
}
