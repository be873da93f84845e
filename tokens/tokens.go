// Package tokens divides a text into tokens, and writes tokens as a text.
package tokens

import (
	"strings"

	"cinnabar/api"
)

// Tokens returns the tokens of a text, the last one being its end, or its first fault.
func Tokens(text string) ([]api.Token, api.Fault) {
	if len(text) > api.MaxSource {
		return nil, api.Fault{Code: api.ErrLimit}
	}
	s := scanner{text: text}
	var list []api.Token
	for {
		if f := s.skip(); f.Code != api.OK {
			return nil, f
		}
		if s.at == len(text) {
			return append(list, s.take(api.TokEnd, s.at)), api.Fault{}
		}
		t, f := s.read()
		if f.Code != api.OK {
			return nil, f
		}
		// The form is known to be right: what Check can find still is a limit or a range.
		if e := Check(t); e != api.OK {
			return nil, api.Fault{At: t.At, Code: e}
		}
		s.named = t.Kind == api.TokName || t.Kind == api.TokVar
		s.end = s.at
		list = append(list, t)
	}
}

// A scanner stands at an index of a text.
type scanner struct {
	text  string
	at    int
	end   int  // where the last token ended
	named bool // the last token is one that arguments may follow
}

// faultAt returns no token, and a fault.
func faultAt(at int, e api.Errno) (api.Token, api.Fault) {
	return api.Token{}, api.Fault{At: at, Code: e}
}

// take makes a token of the bytes before an index.
func (s *scanner) take(kind, end int) api.Token {
	t := api.Token{Kind: kind, Text: s.text[s.at:end], At: s.at}
	s.at = end
	return t
}

// has reports whether the text goes on with these bytes.
func (s *scanner) has(prefix string) bool {
	return strings.HasPrefix(s.text[s.at:], prefix)
}

// skip goes on to the next byte that is in no blank and no comment.
func (s *scanner) skip() api.Fault {
	for s.at < len(s.text) {
		var f api.Fault
		switch {
		case isBlank(s.text[s.at]):
			s.at++
		case s.text[s.at] == '%':
			f = s.skipLine()
		case s.has("/*"):
			f = s.skipComment()
		default:
			return api.Fault{}
		}
		if f.Code != api.OK {
			return f
		}
	}
	return api.Fault{}
}

// skipLine stops in front of the line end, which is a blank.
func (s *scanner) skipLine() api.Fault {
	for ; s.at < len(s.text) && s.text[s.at] != '\n'; s.at++ {
		if !inText(s.text[s.at]) {
			return api.Fault{At: s.at, Code: api.ErrForm}
		}
	}
	return api.Fault{}
}

func (s *scanner) skipComment() api.Fault {
	begin := s.at
	// The star that opens the comment must not close it too.
	for s.at += 2; s.at < len(s.text); s.at++ {
		if s.has("*/") {
			s.at += 2
			return api.Fault{}
		}
		if !inText(s.text[s.at]) {
			return api.Fault{At: s.at, Code: api.ErrForm}
		}
	}
	return api.Fault{At: begin, Code: api.ErrEnd}
}

// read returns the token that begins here.
func (s *scanner) read() (api.Token, api.Fault) {
	c := s.text[s.at]
	switch {
	case isSmall(c):
		return s.take(api.TokName, dottedEnd(s.text, s.at)), api.Fault{}
	case isCapital(c):
		return s.take(api.TokVar, run(s.text, s.at, inWord)), api.Fault{}
	case s.has("0'"):
		return s.readChar()
	case isDigit(c):
		return s.take(api.TokInt, run(s.text, s.at, isDigit)), api.Fault{}
	case isSign(c):
		return s.readSigns()
	case c == ';':
		return s.take(api.TokName, s.at+1), api.Fault{}
	case c == '!':
		return s.take(api.TokName, s.bangEnd()), api.Fault{}
	case c == '\'':
		return s.readName()
	case c == '"':
		return s.readEnclosed(api.TokText)
	case isPunct(c):
		return s.readPunct(), api.Fault{}
	}
	return faultAt(s.at, api.ErrForm)
}

// bangEnd returns the end of the name that begins with the ! here.
func (s *scanner) bangEnd() int {
	next := s.at + 1
	if startsAt(s.text, next, isBangMark) && startsAt(s.text, next+1, isCapital) {
		return next + 1
	}
	return next
}

func isBangMark(c byte) bool { return c == '.' || c == ':' }

// readSigns returns a name of signs, or the stop.
func (s *scanner) readSigns() (api.Token, api.Fault) {
	end := run(s.text, s.at, isSign)
	if s.text[s.at:end] != "." {
		return s.take(api.TokName, end), api.Fault{}
	}
	if end == len(s.text) || isBlank(s.text[end]) || s.text[end] == '%' {
		return s.take(api.TokStop, end), api.Fault{}
	}
	return faultAt(s.at, api.ErrSyntax)
}

// readPunct tells the bracket of arguments from others.
func (s *scanner) readPunct() api.Token {
	arguments := s.text[s.at] == '(' && s.named && s.end == s.at
	t := s.take(api.TokPunct, s.at+1)
	if arguments {
		t.Text = "(("
	}
	return t
}

// readChar returns the character behind 0 and an apostrophe.
func (s *scanner) readChar() (api.Token, api.Fault) {
	first := s.at + 2
	last := first
	if startsAt(s.text, first, isBackslash) {
		last++
	}
	if last >= len(s.text) {
		return faultAt(s.at, api.ErrSyntax)
	}
	c := s.text[last]
	if !inText(c) {
		return faultAt(last, api.ErrForm)
	}
	ok := isShown(c)
	if last > first {
		c, ok = meant(c, '\\')
	}
	if !ok {
		return faultAt(s.at, api.ErrSyntax)
	}
	t := s.take(api.TokChar, last+1)
	t.Text = string([]byte{c})
	return t, api.Fault{}
}

func isBackslash(c byte) bool { return c == '\\' }

// meant returns what a byte behind a backslash stands for, where mark encloses the text. In a name only the backslash and the mark have a meaning there.
func meant(c, mark byte) (byte, bool) {
	switch {
	case c == '\\' || c == mark:
		return c, true
	case mark == '\'':
		return 0, false
	case c == 'n':
		return '\n', true
	case c == 't':
		return '\t', true
	}
	return 0, false
}

// readName returns a name in apostrophes.
func (s *scanner) readName() (api.Token, api.Fault) {
	t, f := s.readEnclosed(api.TokName)
	if f.Code == api.OK && (t.Text == "" || strings.Contains(t.Text, ".")) {
		return faultAt(t.At, api.ErrSyntax)
	}
	return t, f
}

// readEnclosed returns a token of what stands between the mark here and the next one.
func (s *scanner) readEnclosed(kind int) (api.Token, api.Fault) {
	mark := s.text[s.at]
	var inside []byte
	for i := s.at + 1; i < len(s.text); i++ {
		c := s.text[i]
		switch {
		case c == mark:
			t := s.take(kind, i+1)
			t.Text = string(inside)
			return t, api.Fault{}
		case !inText(c):
			return faultAt(i, api.ErrForm)
		case !isShown(c):
			return faultAt(i, api.ErrSyntax)
		case c != '\\':
			inside = append(inside, c)
		case i+1 < len(s.text):
			i++
			m, ok := meant(s.text[i], mark)
			// A byte that no text has is met where it stands, and not as what the backslash has behind it.
			if !inText(s.text[i]) {
				return faultAt(i, api.ErrForm)
			}
			if !ok {
				return faultAt(i-1, api.ErrSyntax)
			}
			inside = append(inside, m)
		}
	}
	return faultAt(s.at, api.ErrEnd)
}
