package tokens

import (
	"strconv"
	"strings"

	"cinnabar/api"
)

// Check says what is wrong with a token, wherever it is; OK if it may come from a text.
func Check(t api.Token) api.Errno {
	if t.Kind < api.TokEnd || t.Kind > api.TokStop {
		return api.ErrKind
	}
	if !hasForm(t) {
		return api.ErrForm
	}
	switch t.Kind {
	case api.TokName:
		return checkName(t.Text)
	case api.TokVar:
		return checkPart(t.Text)
	case api.TokInt:
		return checkDigits(t.Text)
	}
	return api.OK
}

// hasForm reports whether the text of a token is one of its kind, whatever its length.
func hasForm(t api.Token) bool {
	switch t.Kind {
	case api.TokName:
		return isBare(t.Text) || isBangPair(t.Text) || isQuotable(t.Text)
	case api.TokVar:
		return every(t.Text, inWord) && isCapital(t.Text[0])
	case api.TokInt:
		return every(t.Text, isDigit)
	case api.TokChar:
		return len(t.Text) == 1 && inText(t.Text[0])
	case api.TokText:
		return t.Text == "" || every(t.Text, inText)
	case api.TokPunct:
		return t.Text == "((" || len(t.Text) == 1 && isPunct(t.Text[0])
	case api.TokStop:
		return t.Text == "."
	}
	return t.Text == ""
}

// isBare reports whether a text that consists of these bytes alone is one name without apostrophes.
func isBare(s string) bool {
	switch {
	case s == "!" || s == ";":
		return true
	case every(s, isSign):
		return s != "." && !strings.HasPrefix(s, "/*")
	}
	return isDotted(s)
}

// isDotted reports whether a text is a word that begins with a small letter, or several with points between.
func isDotted(s string) bool {
	return startsAt(s, 0, isSmall) && dottedEnd(s, 0) == len(s)
}

// isBangPair reports whether a text is a name that is one without apostrophes only in front of a variable.
func isBangPair(s string) bool { return s == "!." || s == "!:" }

// isQuotable reports whether a text may stand in apostrophes.
func isQuotable(s string) bool {
	return every(s, isShown) && !strings.Contains(s, ".")
}

// checkName checks the parts of a name; points divide words alone.
func checkName(s string) api.Errno {
	if !isDotted(s) {
		return checkPart(s)
	}
	for part := range strings.SplitSeq(s, ".") {
		if e := checkPart(part); e != api.OK {
			return e
		}
	}
	return api.OK
}

func checkPart(s string) api.Errno {
	if len(s) > api.MaxName {
		return api.ErrLimit
	}
	return api.OK
}

func checkDigits(s string) api.Errno {
	n, err := strconv.ParseUint(s, 10, 64)
	if err != nil || n > api.MaxInt {
		return api.ErrRange
	}
	return api.OK
}
