package tokens

import (
	"slices"

	"cinnabar/api"
)

// Text returns a text of the tokens in front of the first end, or of all.
func Text(l []api.Token) (string, api.Errno) {
	end := slices.IndexFunc(l, func(t api.Token) bool { return t.Kind == api.TokEnd })
	if end >= 0 {
		l = l[:end]
	}
	if e := checkAll(l); e != api.OK {
		return "", e
	}
	var text []byte
	for i, t := range l {
		text = append(text, gap(l, i)...)
		text = append(text, written(t, leads(l, i))...)
		if t.Kind == api.TokStop {
			text = append(text, '\n')
		}
		if len(text) > api.MaxSource {
			return "", api.ErrLimit
		}
	}
	return string(text), api.OK
}

// checkAll checks tokens, first each of them alone, then what they need beside them.
func checkAll(l []api.Token) api.Errno {
	for _, t := range l {
		if e := Check(t); e != api.OK {
			return e
		}
	}
	for i, t := range l {
		if isArguments(t) && !followsName(l, i) {
			return api.ErrForm
		}
		if t.Kind == api.TokName && t.Text == "!." && !leads(l, i) {
			return api.ErrForm
		}
	}
	return api.OK
}

// isArguments reports whether a token is the bracket of arguments.
func isArguments(t api.Token) bool { return t.Kind == api.TokPunct && t.Text == "((" }

// followsName reports whether the token in front of an index may have arguments.
func followsName(l []api.Token, i int) bool {
	return i > 0 && (l[i-1].Kind == api.TokName || l[i-1].Kind == api.TokVar)
}

// leads reports whether the token at an index is a !. or !: of the variable behind it.
func leads(l []api.Token, i int) bool {
	return l[i].Kind == api.TokName && isBangPair(l[i].Text) && i+1 < len(l) && l[i+1].Kind == api.TokVar
}

// gap returns what stands in front of the token at an index. A stop has brought its line end.
func gap(l []api.Token, i int) string {
	if i == 0 || isArguments(l[i]) || leads(l, i-1) || l[i-1].Kind == api.TokStop {
		return ""
	}
	return " "
}

// written returns how a token is written; bare: without apostrophes in any case.
func written(t api.Token, bare bool) string {
	switch {
	case t.Kind == api.TokName && !bare:
		return Name(t.Text)
	case t.Kind == api.TokChar && t.Text == "\"":
		return "0'\""
	case t.Kind == api.TokChar:
		return "0'" + escape(t.Text)
	case t.Kind == api.TokText:
		return "\"" + escape(t.Text) + "\""
	case isArguments(t):
		return "("
	}
	return t.Text
}

// escape puts backslashes where a string needs them.
func escape(s string) string {
	var b []byte
	for i := range len(s) {
		switch s[i] {
		case '\n':
			b = append(b, '\\', 'n')
		case '\t':
			b = append(b, '\\', 't')
		case '\\', '"':
			b = append(b, '\\', s[i])
		default:
			b = append(b, s[i])
		}
	}
	return string(b)
}

// Name returns how a name is written: in apostrophes, unless it is one token without them.
func Name(s string) string {
	if isBare(s) {
		return s
	}
	b := []byte{'\''}
	for i := range len(s) {
		if s[i] == '\\' || s[i] == '\'' {
			b = append(b, '\\')
		}
		b = append(b, s[i])
	}
	return string(append(b, '\''))
}
