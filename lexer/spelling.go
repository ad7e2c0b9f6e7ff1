package lexer

import (
	"strconv"

	"plexus/api"
	"plexus/names"
)

// maxSign is the greatest length of a sign.
const maxSign = 2

// keywords are the words that are no names.
var keywords = [...]string{
	"and", "bool", "bottom", "closed", "conflict", "else", "false", "first", "flag", "flat",
	"if", "in", "int", "join", "keys", "lattice", "leq", "lex", "map", "max",
	"min", "name", "names", "not", "num", "number", "object", "on", "one", "or",
	"pair", "query", "rec", "register", "s", "second", "set", "size", "sum", "then",
	"true", "update", "values", "write",
}

// signs are the tokens that are written with other bytes.
var signs = [...]string{"=", ":", ";", ",", "(", ")", "{", "}", "[", "]", ".", "+", "-", "<", "<=", "==", "=>"}

// Keyword reports whether s is a keyword of the language.
func Keyword(s string) bool {
	for _, word := range keywords {
		if word == s {
			return true
		}
	}
	return false
}

// Sign reports whether s is a sign of the language.
func Sign(s string) bool {
	for _, sign := range signs {
		if sign == s {
			return true
		}
	}
	return false
}

// spelling returns what stands for a token in a source, and whether the token is possible.
func spelling(t api.Token) (string, bool) {
	if t.Kind == api.TokInt {
		return strconv.FormatInt(t.N, 10), t.Text == "" && t.N >= 0 && t.N <= api.MaxNumber
	}
	word, ok := t.Text, false
	switch t.Kind {
	case api.TokName:
		ok = names.Valid(t.Text) && !Keyword(t.Text)
	case api.TokKeyword:
		ok = Keyword(t.Text)
	case api.TokQuoted:
		word, ok = "'"+t.Text+"'", names.Valid(t.Text)
	case api.TokSign:
		ok = Sign(t.Text)
	case api.TokEnd:
		ok = t.Text == ""
	}
	return word, ok && t.N == 0
}
