package tokens

import "strings"

const signBytes = `+-*/\^<>=~:.?@#&$`

func isBlank(c byte) bool { return c == ' ' || c == '\t' || c == '\n' }

// isShown reports whether a byte may stand as it is between apostrophes or quotes.
func isShown(c byte) bool { return c >= 32 && c <= 126 }

// inText reports whether a text may have this byte at all.
func inText(c byte) bool { return isShown(c) || isBlank(c) }

func isSmall(c byte) bool { return c >= 'a' && c <= 'z' }

// isCapital reports whether a variable may begin with this byte.
func isCapital(c byte) bool { return c >= 'A' && c <= 'Z' || c == '_' }

func isDigit(c byte) bool { return c >= '0' && c <= '9' }

func inWord(c byte) bool { return isSmall(c) || isCapital(c) || isDigit(c) }

func isSign(c byte) bool { return strings.IndexByte(signBytes, c) >= 0 }

func isPunct(c byte) bool { return strings.IndexByte("()[]{},|", c) >= 0 }

// run returns the end of the longest run of bytes of one class that begins at an index.
func run(text string, from int, class func(byte) bool) int {
	for from < len(text) && class(text[from]) {
		from++
	}
	return from
}

// every reports whether a text is not empty and has bytes of one class alone.
func every(text string, class func(byte) bool) bool {
	return text != "" && run(text, 0, class) == len(text)
}

// startsAt reports whether a text has a byte of a class at an index, which may lie behind its end.
func startsAt(text string, at int, class func(byte) bool) bool {
	return at < len(text) && class(text[at])
}

// dottedEnd returns the end of a word and of those that follow it with points between.
func dottedEnd(text string, from int) int {
	end := run(text, from, inWord)
	for startsAt(text, end, isPoint) && startsAt(text, end+1, isSmall) {
		end = run(text, end+1, inWord)
	}
	return end
}

func isPoint(c byte) bool { return c == '.' }
