package lexer

import (
	"strconv"

	"plexus/api"
	"plexus/names"
)

// scanner walks over the bytes of a source. The bytes in front of the offset at have been read.
type scanner struct {
	src string
	at  int
}

// next reads a token and the blanks and comments in front of it.
func (s *scanner) next() (api.Token, api.Fault) {
	s.skip()
	at := s.at
	t, e := s.token()
	if e != api.OK {
		return api.Token{}, api.Fault{Code: e, At: at}
	}
	t.At = at
	return t, api.Fault{}
}

// skip reads blanks and comments.
func (s *scanner) skip() {
	s.run(isBlank)
	for s.sees('#') {
		s.run(func(c byte) bool { return c != '\n' })
		s.run(isBlank)
	}
}

// token reads a token, whose offset it leaves out. There is no fault but at the first byte of a token.
func (s *scanner) token() (api.Token, api.Errno) {
	if s.at == len(s.src) {
		return api.Token{Kind: api.TokEnd}, api.OK
	}
	c := s.src[s.at]
	switch {
	case isLetter(c):
		return s.word()
	case isDigit(c):
		return s.integer()
	case c == '\'':
		return s.quoted()
	}
	return s.sign()
}

// word reads a keyword or a name.
func (s *scanner) word() (api.Token, api.Errno) {
	text := s.run(inWord)
	if len(text) > api.MaxName {
		return api.Token{}, api.ErrName
	}
	if Keyword(text) {
		return api.Token{Kind: api.TokKeyword, Text: text}, api.OK
	}
	return api.Token{Kind: api.TokName, Text: text}, api.OK
}

// integer reads an integer.
func (s *scanner) integer() (api.Token, api.Errno) {
	digits := s.run(isDigit)
	if digits[0] == '0' && len(digits) > 1 {
		return api.Token{}, api.ErrSyntax
	}
	n, err := strconv.ParseInt(digits, 10, 64)
	if err != nil || n > api.MaxNumber {
		return api.Token{}, api.ErrRange
	}
	return api.Token{Kind: api.TokInt, N: n}, api.OK
}

// quoted reads a quoted name.
func (s *scanner) quoted() (api.Token, api.Errno) {
	s.at++
	text := s.run(inWord)
	if !s.sees('\'') {
		return api.Token{}, api.ErrSyntax
	}
	s.at++
	if !names.Valid(text) {
		return api.Token{}, api.ErrName
	}
	return api.Token{Kind: api.TokQuoted, Text: text}, api.OK
}

// sign reads the longest sign.
func (s *scanner) sign() (api.Token, api.Errno) {
	for length := min(maxSign, len(s.src)-s.at); length > 0; length-- {
		text := s.src[s.at : s.at+length]
		if Sign(text) {
			s.at += length
			return api.Token{Kind: api.TokSign, Text: text}, api.OK
		}
	}
	return api.Token{}, api.ErrSyntax
}

// run reads the longest run of bytes of which in holds, and returns it.
func (s *scanner) run(in func(c byte) bool) string {
	from := s.at
	for s.at < len(s.src) && in(s.src[s.at]) {
		s.at++
	}
	return s.src[from:s.at]
}

// sees reports whether the byte c comes next.
func (s *scanner) sees(c byte) bool {
	return s.at < len(s.src) && s.src[s.at] == c
}

// isBlank reports whether c is a blank.
func isBlank(c byte) bool {
	return c == ' ' || c == '\t' || c == '\n' || c == '\r'
}

// isLetter reports whether a word can begin with c.
func isLetter(c byte) bool {
	return 'a' <= c && c <= 'z'
}

// isDigit reports whether c is a digit.
func isDigit(c byte) bool {
	return '0' <= c && c <= '9'
}

// inWord reports whether c can occur in a word.
func inWord(c byte) bool {
	return isLetter(c) || isDigit(c) || c == '-'
}
