package items

import (
	"strings"

	"cinnabar/api"
	"cinnabar/tokens"
)

// isWord reports whether a name is a word that begins with a small letter.
func isWord(name string) bool { return isDotted(name) && isPlain(name) }

// isDotted reports whether a name is such a word, or several of them with points between.
func isDotted(name string) bool {
	return name != "" && name[0] >= 'a' && name[0] <= 'z' && tokens.Name(name) == name
}

// isPlain reports whether a name has no point.
func isPlain(name string) bool { return !strings.Contains(name, ".") }

// isTypeVariable reports whether a variable may stand for a type.
func isTypeVariable(name string) bool {
	// What is too long is a variable all the same: only terms have limits.
	return name != "_" && tokens.Check(api.Token{Kind: api.TokVar, Text: name}) != api.ErrForm
}

// Det returns the determinism of a name.
func Det(name string) (int, bool) {
	for d := range api.Dets {
		if DetName(d) == name {
			return d, true
		}
	}
	return 0, false
}

// DetName returns the name of a determinism; no text, if there is none.
func DetName(d int) string {
	switch d {
	case api.Det:
		return "det"
	case api.Semidet:
		return "semidet"
	case api.Multi:
		return "multi"
	case api.Nondet:
		return "nondet"
	case api.CcMulti:
		return "cc_multi"
	case api.CcNondet:
		return "cc_nondet"
	case api.Erroneous:
		return "erroneous"
	case api.Failure:
		return "failure"
	}
	return ""
}
