package names

import "plexus/api"

// Parse returns the set whose text s is, or the offset of the first error.
func Parse(s string) ([]string, int, api.Errno) {
	p := &parser{source: s}
	list, e := p.set()
	if e != api.OK {
		return nil, p.at, e
	}
	return Of(list), 0, api.OK
}

// parser reads a source from left to right. After an error, at is the offset of the error.
type parser struct {
	source string
	at     int
}

// set reads a whole source and returns the words between the braces.
func (p *parser) set() ([]string, api.Errno) {
	if !p.sign('{') {
		return nil, api.ErrSyntax
	}
	var list []string
	if !p.sign('}') {
		words, e := p.words()
		if e != api.OK {
			return nil, e
		}
		list = words
	}
	p.skipBlanks()
	if p.at < len(p.source) {
		return nil, api.ErrSyntax
	}
	return list, api.OK
}

// words reads one or more different names with commas between them, and the brace behind them.
func (p *parser) words() ([]string, api.Errno) {
	var list []string
	seen := map[string]bool{}
	for {
		word := p.word()
		if word == "" {
			return nil, api.ErrSyntax
		}
		if !Valid(word) || seen[word] {
			p.at -= len(word)
			return nil, api.ErrName
		}
		seen[word] = true
		list = append(list, word)
		if p.sign('}') {
			return list, api.OK
		}
		if !p.sign(',') {
			return nil, api.ErrSyntax
		}
	}
}

// word skips blanks and reads the word behind them, which is empty if there is none.
func (p *parser) word() string {
	p.skipBlanks()
	start := p.at
	for p.at < len(p.source) && inWord(p.source[p.at]) {
		p.at++
	}
	return p.source[start:p.at]
}

// sign skips blanks, and reads the byte c if it is behind them.
func (p *parser) sign(c byte) bool {
	p.skipBlanks()
	if p.at == len(p.source) || p.source[p.at] != c {
		return false
	}
	p.at++
	return true
}

// skipBlanks moves to the next byte that is not a blank.
func (p *parser) skipBlanks() {
	for p.at < len(p.source) && p.source[p.at] == ' ' {
		p.at++
	}
}
