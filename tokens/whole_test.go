package tokens

import (
	"slices"
	"testing"

	"cinnabar/api"
)

// texts yields all texts of at most a number of bytes that have a meaning of their own.
func texts(most int, yield func(string)) {
	level := []string{""}
	for range most + 1 {
		var next []string
		for _, s := range level {
			yield(s)
			for _, c := range []byte("aX0n.!:;'\"\\/*+(,% \n\x01") {
				next = append(next, s+string([]byte{c}))
			}
		}
		level = next
	}
}

// P1.4: each token of a text is right, and the places ascend; with a fault there are no tokens.
func TestTokensAreRight(t *testing.T) {
	texts(4, func(text string) {
		l, f := Tokens(text)
		if f.Code != api.OK {
			if l != nil || f.At < 0 || f.At >= len(text) {
				t.Errorf("%q: %v %v", text, l, f)
			}
			return
		}
		if f != (api.Fault{}) || l[len(l)-1] != (api.Token{At: len(text)}) {
			t.Errorf("%q: %v %v", text, l, f)
		}
		for i, k := range l {
			if Check(k) != api.OK || i > 0 && k.At <= l[i-1].At {
				t.Errorf("%q: %v", text, l)
			}
		}
	})
}

// P1.4: what Text writes is read as the same tokens.
func TestTextIsRead(t *testing.T) {
	texts(4, func(text string) {
		l, f := Tokens(text)
		if f.Code != api.OK {
			return
		}
		s, e := Text(l)
		again, f := Tokens(s)
		if e != api.OK || f.Code != api.OK || !slices.Equal(unplaced(again), unplaced(l)) {
			t.Errorf("%q: %q %v %v", text, s, e, f)
		}
		if again, _ := Text(again); again != s {
			t.Errorf("%q: %q %q", text, s, again)
		}
	})
}

// P1.4: lists of tokens that no text has shown are read as they are, too.
func TestListsAreRead(t *testing.T) {
	some := []api.Token{
		name("a"), name("a.b"), name("A"), name("+"), name(".+"), name("/*"), name("!"), name("!."), name("!:"), name(";"), name("'\\"),
		variable("X"), digits("0"), char("'"), char("\\"), str("\"\\\n"), punct("("), punct("(("), punct(","), stop(),
	}
	for _, a := range some {
		for _, b := range some {
			for _, c := range some {
				l := []api.Token{a, b, c}
				s, e := Text(l)
				if e == api.ErrForm {
					continue
				}
				again, f := Tokens(s)
				if e != api.OK || f.Code != api.OK || !slices.Equal(unplaced(again), l) {
					t.Errorf("%v: %q %v %v", l, s, e, f)
				}
			}
		}
	}
}

// P1.4: blanks and comments between tokens change places alone. In front of a bracket, and behind a name that is one only in front of its variable, there may be none.
func TestBlanksChangePlacesAlone(t *testing.T) {
	texts(4, func(text string) {
		l, f := Tokens(text)
		if f.Code != api.OK {
			return
		}
		var wide []byte
		for i, k := range l[:len(l)-1] {
			bracket := k.Kind == api.TokPunct && k.Text[0] == '('
			if !bracket && (i == 0 || !leads(l, i-1)) {
				wide = append(wide, "\t/* . */ % (\n"...)
			}
			wide = append(wide, text[k.At:l[i+1].At]...)
		}
		again, f := Tokens(string(wide))
		if f.Code != api.OK || !slices.Equal(unplaced(again), unplaced(l)) {
			t.Errorf("%q: %q %v", text, wide, f)
		}
	})
}

// P1.4: a name in a text is written as Name says.
func TestNameIsRead(t *testing.T) {
	texts(4, func(text string) {
		l, f := Tokens(text)
		one := f.Code == api.OK && len(l) == 2 && l[0].Kind == api.TokName && l[0].Text == text
		if (Name(text) == text) != one {
			t.Errorf("%q: %q", text, Name(text))
		}
		k := name(text)
		if Check(k) != api.OK || text == "!." {
			return
		}
		l, f = Tokens(Name(text))
		if f.Code != api.OK || !slices.Equal(unplaced(l), []api.Token{k}) {
			t.Errorf("%q: %q %v", text, Name(text), f)
		}
	})
}
