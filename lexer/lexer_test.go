package lexer_test

import (
	"slices"
	"strconv"
	"strings"
	"testing"

	"plexus/api"
	"plexus/lexer"
)

// Short names for tokens; the offset is added where it counts.
func name(s string) api.Token    { return api.Token{Kind: api.TokName, Text: s} }
func keyword(s string) api.Token { return api.Token{Kind: api.TokKeyword, Text: s} }
func integer(n int64) api.Token  { return api.Token{Kind: api.TokInt, N: n} }
func quoted(s string) api.Token  { return api.Token{Kind: api.TokQuoted, Text: s} }
func sign(s string) api.Token    { return api.Token{Kind: api.TokSign, Text: s} }
func end() api.Token             { return api.Token{Kind: api.TokEnd} }

// at returns a token at an offset.
func at(offset int, t api.Token) api.Token {
	t.At = offset
	return t
}

// without returns tokens without their offsets.
func without(tokens []api.Token) []api.Token {
	list := slices.Clone(tokens)
	for i := range list {
		list[i].At = 0
	}
	return list
}

// TestExamples covers P15.2, P15.3 and P15.5 for the chapter's examples.
func TestExamples(t *testing.T) {
	for _, c := range []struct {
		src  string
		want []api.Token
	}{
		{"object cart-1 : set; # my cart", []api.Token{at(0, keyword("object")), at(7, name("cart-1")), at(14, sign(":")), at(16, keyword("set")), at(19, sign(";")), at(30, end())}},
		{"a-1", []api.Token{name("a-1"), at(3, end())}},
		{"a - 1", []api.Token{name("a"), at(2, sign("-")), at(4, integer(1)), at(5, end())}},
		{"1a", []api.Token{integer(1), at(1, name("a")), at(2, end())}},
		{"<==", []api.Token{sign("<="), at(2, sign("=")), at(3, end())}},
		{"===>", []api.Token{sign("=="), at(2, sign("=>")), at(4, end())}},
		{"'set'", []api.Token{quoted("set"), at(5, end())}},
		{"0", []api.Token{integer(0), at(1, end())}},
	} {
		if got, fault := lexer.Lex(c.src); fault != (api.Fault{}) || !slices.Equal(got, c.want) {
			t.Errorf("Lex(%q): %v, %v", c.src, got, fault)
		}
	}
	for _, c := range []struct {
		src   string
		fault api.Fault
	}{
		{"x 'set", api.Fault{Code: api.ErrSyntax, At: 2}}, {"''", api.Fault{Code: api.ErrName}}, {"'1'", api.Fault{Code: api.ErrName}},
		{"007", api.Fault{Code: api.ErrSyntax}}, {"1000000000000001", api.Fault{Code: api.ErrRange}}, {"A", api.Fault{Code: api.ErrSyntax}},
	} {
		if got, fault := lexer.Lex(c.src); fault != c.fault || len(got) != 0 {
			t.Errorf("Lex(%q): %v, %v", c.src, got, fault)
		}
	}
	for offset, want := range [][2]int{{1, 1}, {1, 2}, {2, 1}, {2, 2}, {2, 3}} {
		if line, column := lexer.Place("a\nbc", offset); line != want[0] || column != want[1] {
			t.Errorf("Place of %d: %d, %d", offset, line, column)
		}
	}
}

// TestKeywordsAndSigns covers P15.1: all of the chapter, and what is near them.
func TestKeywordsAndSigns(t *testing.T) {
	words := strings.Fields(allKeywords)
	if len(words) != 44 {
		t.Errorf("%d keywords", len(words))
	}
	signs := strings.Fields(allSigns)
	for _, s := range slices.Concat(words, signs) {
		for _, other := range []string{s, s + "s", s + " ", " " + s, "'" + s + "'", strings.ToUpper(s), s[1:], s[:len(s)-1], s + "=", s + ">", s + s, s + "\x00"} {
			if lexer.Keyword(other) != slices.Contains(words, other) || lexer.Sign(other) != slices.Contains(signs, other) {
				t.Errorf("%q: Keyword %t, Sign %t", other, lexer.Keyword(other), lexer.Sign(other))
			}
		}
	}
	for c := range 256 {
		for d := range 256 {
			s := string([]byte{byte(c), byte(d)})
			if lexer.Sign(s) != slices.Contains(signs, s) || lexer.Keyword(s) != slices.Contains(words, s) {
				t.Errorf("%q: Keyword %t, Sign %t", s, lexer.Keyword(s), lexer.Sign(s))
			}
		}
	}
	for _, s := range []string{"", ">", "!", "!=", ">=", "<>", "*", "/", "#", "'", "integer", "string", "maps", "a", "t", strings.Repeat("if", 30000)} {
		if lexer.Keyword(s) || lexer.Sign(s) {
			t.Errorf("%q is a keyword or a sign", s)
		}
	}
}

// TestTokens covers P15.2 and P15.3 for the edges of each kind of token, with the token alone and behind another one.
func TestTokens(t *testing.T) {
	long := "a" + strings.Repeat("-", 15)
	for src, want := range map[string]api.Token{
		"a": name("a"), "z": name("z"), "a-": name("a-"), "a--": name("a--"), "a0": name("a0"), "z-9": name("z-9"), long: name(long), "abcdefghijklmnop": name("abcdefghijklmnop"), "s1": name("s1"), "sets": name("sets"), "set-": name("set-"), "if-1": name("if-1"),
		"s": keyword("s"), "conflict": keyword("conflict"), "register": keyword("register"), "and": keyword("and"), "write": keyword("write"),
		"0": integer(0), "9": integer(9), "10": integer(10), "999999999999999": integer(999999999999999), "1000000000000000": integer(api.MaxNumber),
		"'a'": quoted("a"), "'s'": quoted("s"), "'if'": quoted("if"), "'a-'": quoted("a-"), "'" + long + "'": quoted(long), "'abcdefghijklmnop'": quoted("abcdefghijklmnop"), "'z9-0'": quoted("z9-0"),
		"=": sign("="), "=>": sign("=>"), "==": sign("=="), "<": sign("<"), "<=": sign("<="), "-": sign("-"), ".": sign("."), "{": sign("{"), "}": sign("}"), "[": sign("["), "]": sign("]"), "(": sign("("), ")": sign(")"), "+": sign("+"), ":": sign(":"), ";": sign(";"), ",": sign(","),
	} {
		for _, before := range []string{"", " ", "\n\t\r ", "#x\n", "# '\n\n#\n\r", "[", "1 ", "'b'\n"} {
			got, behind, fault := lexer.Next(before+src, len(before))
			if fault != (api.Fault{}) || got != at(len(before), want) || behind != len(before+src) {
				t.Errorf("Next of %q behind %q: %v, %d, %v", src, before, got, behind, fault)
			}
			list, fault := lexer.Lex(before + src + "\n#")
			if fault != (api.Fault{}) || len(list) < 2 || list[len(list)-2] != at(len(before), want) || list[len(list)-1] != at(len(before+src)+2, end()) {
				t.Errorf("Lex of %q behind %q: %v, %v", src, before, list, fault)
			}
		}
	}
}

// TestFaults covers P15.2 and P15.3 for each fault of the chapter, in its order.
func TestFaults(t *testing.T) {
	for src, code := range map[string]api.Errno{
		"abcdefghijklmnopq": api.ErrName, "a" + strings.Repeat("-", 16): api.ErrName, strings.Repeat("register", 3): api.ErrName, strings.Repeat("z", 1000): api.ErrName,
		"00": api.ErrSyntax, "01": api.ErrSyntax, "0000": api.ErrSyntax, "00a": api.ErrSyntax, "01000000000000001": api.ErrSyntax, strings.Repeat("0", 1000): api.ErrSyntax,
		"'": api.ErrSyntax, "'a": api.ErrSyntax, "'a 'b'": api.ErrSyntax, "' a'": api.ErrSyntax, "'a '": api.ErrSyntax, "'A'": api.ErrSyntax, "'aA'": api.ErrSyntax, "'1": api.ErrSyntax, "'abcdefghijklmnopq": api.ErrSyntax, "'a\n'": api.ErrSyntax, "'a#'": api.ErrSyntax,
		"''": api.ErrName, "'''": api.ErrName, "''a": api.ErrName, "'1a'": api.ErrName, "'-'": api.ErrName, "'-a'": api.ErrName, "'0'": api.ErrName, "'abcdefghijklmnopq'": api.ErrName, "'" + strings.Repeat("a", 1000) + "'": api.ErrName,
		"1000000000000001": api.ErrRange, "1000000000000001a": api.ErrRange, "9999999999999999": api.ErrRange, "10000000000000000": api.ErrRange, "9223372036854775807": api.ErrRange, "9223372036854775808": api.ErrRange, "18446744073709551617": api.ErrRange, strings.Repeat("1", 1000): api.ErrRange,
		">": api.ErrSyntax, ">=": api.ErrSyntax, "!": api.ErrSyntax, "!=": api.ErrSyntax, "\x00": api.ErrSyntax, "\v": api.ErrSyntax, "\f": api.ErrSyntax, "\u00a0": api.ErrSyntax, "é": api.ErrSyntax, "\xff": api.ErrSyntax, "_a": api.ErrSyntax, "\"a\"": api.ErrSyntax, "*": api.ErrSyntax, "/": api.ErrSyntax, "Zz": api.ErrSyntax,
	} {
		for _, before := range []string{"", " ", "\n\t\r ", "#x\n", "# '\n\n#\n\r", "[", "1 ", "'b'\n"} {
			want := api.Fault{Code: code, At: len(before)}
			got, behind, fault := lexer.Next(before+src, len(before))
			if fault != want || got != (api.Token{}) || behind != 0 {
				t.Errorf("Next of %q behind %q: %v, %d, %v", src, before, got, behind, fault)
			}
			for _, more := range []string{"", " ", " a", "\n>", " 00"} {
				if list, fault := lexer.Lex(before + src + more); fault != want || len(list) != 0 {
					t.Errorf("Lex of %q between %q and %q: %v, %v", src, before, more, list, fault)
				}
			}
		}
	}
}

// TestBytes covers P15.2: with which bytes a token begins.
func TestBytes(t *testing.T) {
	for c := range 256 {
		src := string([]byte{byte(c)})
		got, behind, fault := lexer.Next(src, 0)
		want, length, code := reference(src)
		if got != want || behind != length || fault.Code != code || fault.At != 0 {
			t.Errorf("Next(%q): %v, %d, %v", src, got, behind, fault)
		}
	}
}

// TestNextArguments covers P15.2 and P1 for what Next refuses, and the end.
func TestNextArguments(t *testing.T) {
	full := strings.Repeat(" ", lexer.MaxSource)
	for _, c := range []struct {
		src   string
		at    int
		fault api.Fault
	}{
		{"ab", -1, api.Fault{Code: api.ErrArgument}}, {"ab", 3, api.Fault{Code: api.ErrArgument}}, {"", 1, api.Fault{Code: api.ErrArgument}}, {"", -1 << 63, api.Fault{Code: api.ErrArgument}}, {"ab", 1<<63 - 1, api.Fault{Code: api.ErrArgument}}, {"A", -1, api.Fault{Code: api.ErrArgument}},
		{full, lexer.MaxSource + 1, api.Fault{Code: api.ErrArgument}},
		{full + " ", 0, api.Fault{Code: api.ErrLimit, At: lexer.MaxSource}}, {full + " ", -1, api.Fault{Code: api.ErrLimit, At: lexer.MaxSource}}, {"A" + full, 0, api.Fault{Code: api.ErrLimit, At: lexer.MaxSource}}, {full + full, lexer.MaxSource * 3, api.Fault{Code: api.ErrLimit, At: lexer.MaxSource}},
	} {
		if got, behind, fault := lexer.Next(c.src, c.at); fault != c.fault || got != (api.Token{}) || behind != 0 {
			t.Errorf("Next of %d bytes at %d: %v, %d, %v", len(c.src), c.at, got, behind, fault)
		}
	}
	for _, src := range []string{"", " ", "#", "# a", "\n", "#\n", full, "#" + full[1:]} {
		for _, from := range []int{0, len(src)} {
			if got, behind, fault := lexer.Next(src, from); fault != (api.Fault{}) || got != at(len(src), end()) || behind != len(src) {
				t.Errorf("Next of %d bytes at %d: %v, %d, %v", len(src), from, got, behind, fault)
			}
		}
	}
}

// TestInside covers P15.2 for offsets inside tokens and comments.
func TestInside(t *testing.T) {
	for _, c := range []struct {
		src    string
		from   int
		want   api.Token
		behind int
	}{
		{"sets", 1, at(1, name("ets")), 4}, {"asset", 2, at(2, keyword("set")), 5}, {"a-1", 1, at(1, sign("-")), 2}, {"a-1", 2, at(2, integer(1)), 3}, {"100", 1, at(1, api.Token{}), 0}, {"1002", 3, at(3, integer(2)), 4},
		{"'a'", 1, at(1, name("a")), 2}, {"'a'b'", 2, at(2, quoted("b")), 5}, {"<==", 1, at(1, sign("==")), 3}, {"===>", 1, at(1, sign("==")), 3}, {"===>", 2, at(2, sign("=>")), 4},
		{"# a b", 1, at(2, name("a")), 3}, {"# a b", 3, at(4, name("b")), 5}, {"#a#b\nc", 1, at(1, name("a")), 2}, {"#a#b\nc", 2, at(5, name("c")), 6}, {"##", 1, at(2, end()), 2}, {"abcdefghijklmnopq", 1, at(1, name("bcdefghijklmnopq")), 17},
	} {
		got, behind, fault := lexer.Next(c.src, c.from)
		if c.behind == 0 {
			if fault != (api.Fault{Code: api.ErrSyntax, At: c.want.At}) {
				t.Errorf("Next of %q at %d: %v, %d, %v", c.src, c.from, got, behind, fault)
			}
		} else if fault != (api.Fault{}) || got != c.want || behind != c.behind {
			t.Errorf("Next of %q at %d: %v, %d, %v", c.src, c.from, got, behind, fault)
		}
	}
}

// TestLexLimit covers P15.3 for sources of the greatest length and longer ones.
func TestLexLimit(t *testing.T) {
	for _, src := range []string{strings.Repeat("a ", lexer.MaxSource/2), strings.Repeat(".", lexer.MaxSource), strings.Repeat("=", lexer.MaxSource), strings.Repeat("a\n#", lexer.MaxSource/3), "a" + strings.Repeat("#", lexer.MaxSource-1)} {
		list, fault := lexer.Lex(src)
		if fault != (api.Fault{}) || list[len(list)-1] != at(len(src), end()) {
			t.Errorf("Lex of %d bytes: %d tokens, %v", len(src), len(list), fault)
		}
		longer := src + strings.Repeat("\n", lexer.MaxSource+1-len(src))
		if list, fault := lexer.Lex(longer); fault != (api.Fault{Code: api.ErrLimit, At: lexer.MaxSource}) || len(list) != 0 {
			t.Errorf("Lex of %d bytes: %d tokens, %v", len(longer), len(list), fault)
		}
		if list, fault := lexer.Lex("A" + src + src); fault != (api.Fault{Code: api.ErrLimit, At: lexer.MaxSource}) || len(list) != 0 {
			t.Errorf("Lex of more than %d bytes: %d tokens, %v", len(src), len(list), fault)
		}
	}
}

// TestPlace covers P15.5 for all offsets of some sources, counted byte by byte.
func TestPlace(t *testing.T) {
	for _, src := range []string{"", "a", "\n", "\n\n", "a\n", "a\nbc", "\r\n\t\n", "é\nü\n\n#", strings.Repeat("ab\n", 50), strings.Repeat("\n", 30) + strings.Repeat("x", 30)} {
		line, column := 1, 1
		for offset := range len(src) + 1 {
			if l, c := lexer.Place(src, offset); l != line || c != column {
				t.Errorf("Place of %q at %d: %d, %d", src, offset, l, c)
			}
			column++
			if offset < len(src) && src[offset] == '\n' {
				line, column = line+1, 1
			}
		}
		for _, offset := range []int{-1, len(src) + 1, -1 << 63, 1<<63 - 1} {
			if l, c := lexer.Place(src, offset); l != 0 || c != 0 {
				t.Errorf("Place of %q at %d: %d, %d", src, offset, l, c)
			}
		}
	}
	// A source for Place may be longer than one that has tokens.
	long := strings.Repeat("ab\n", lexer.MaxSource)
	if l, c := lexer.Place(long, len(long)-1); l != lexer.MaxSource || c != 3 {
		t.Errorf("Place in a long source: %d, %d", l, c)
	}
}

// TestText covers P15.4: what Text returns, and which tokens are possible.
func TestText(t *testing.T) {
	for _, c := range []struct {
		tokens []api.Token
		want   string
	}{
		{[]api.Token{end()}, ""}, {[]api.Token{at(-5, end())}, ""}, {[]api.Token{name("a"), end()}, "a"}, {[]api.Token{at(7, name("a")), at(3, name("a")), at(1<<40, end())}, "a a"},
		{[]api.Token{keyword("object"), name("cart-1"), sign(":"), keyword("set"), sign(";"), end()}, "object cart-1 : set ;"},
		{[]api.Token{integer(0), sign("-"), integer(1), integer(api.MaxNumber), quoted("set"), quoted("a-"), sign("<="), sign("="), end()}, "0 - 1 1000000000000000 'set' 'a-' <= ="},
		{[]api.Token{name("abcdefghijklmnop"), quoted("abcdefghijklmnop"), keyword("s"), sign("=>"), end()}, "abcdefghijklmnop 'abcdefghijklmnop' s =>"},
	} {
		if s, e := lexer.Text(c.tokens); e != api.OK || s != c.want {
			t.Errorf("Text(%v): %q, %d", c.tokens, s, e)
		}
	}
	impossible := []api.Token{
		{}, {Kind: -1, Text: "a"}, {Kind: 7}, {Kind: 1 << 40, Text: "a"}, {Text: "a"},
		name(""), name("set"), name("s"), name("1"), name("-a"), name("a b"), name("A"), name("abcdefghijklmnopq"), name("'a'"), name("="), {Kind: api.TokName, Text: "a", N: 1},
		keyword(""), keyword("a"), keyword("Set"), keyword("set "), keyword("="), {Kind: api.TokKeyword, Text: "set", N: -1},
		integer(-1), integer(api.MaxNumber + 1), integer(-1 << 63), integer(1<<63 - 1), {Kind: api.TokInt, Text: "1", N: 1}, {Kind: api.TokInt, Text: " "},
		quoted(""), quoted("'a'"), quoted("1"), quoted("a'b"), quoted("abcdefghijklmnopq"), quoted("A"), {Kind: api.TokQuoted, Text: "a", N: 1},
		sign(""), sign(">"), sign("= "), sign("a"), sign("<=="), sign("set"), {Kind: api.TokSign, Text: "=", N: 1},
		{Kind: api.TokEnd, Text: " "}, {Kind: api.TokEnd, Text: "a"}, {Kind: api.TokEnd, N: 1},
	}
	refuse := func(tokens ...api.Token) {
		if s, e := lexer.Text(tokens); e != api.ErrArgument || s != "" {
			t.Errorf("Text(%v): %q, %d", tokens, s, e)
		}
	}
	for _, bad := range impossible {
		refuse(bad)
		refuse(bad, end())
		refuse(name("a"), bad, name("b"), end())
		refuse(name("a"), end(), bad)
		refuse(name("a"), bad)
	}
	refuse()
	refuse(name("a"))
	refuse(end(), end())
	refuse(end(), name("a"), end())
	refuse(end(), name("a"))
	refuse(name("a"), end(), name("b"))
}

// TestTextLimit covers P15.4 and the order of the errors of Text.
func TestTextLimit(t *testing.T) {
	for _, c := range []struct {
		count int
		last  string
		fits  bool
	}{
		{lexer.MaxSource / 2, "", true}, {lexer.MaxSource/2 + 1, "", false}, {lexer.MaxSource/2 - 1, "ab", true}, {lexer.MaxSource/2 - 1, "abc", false}, {lexer.MaxSource * 4, "", false},
	} {
		tokens := slices.Repeat([]api.Token{name("a")}, c.count)
		if c.last != "" {
			tokens = append(tokens, name(c.last))
		}
		s, e := lexer.Text(append(tokens, end()))
		want := strings.TrimSuffix(strings.Repeat("a ", c.count)+c.last, " ")
		if c.fits && (e != api.OK || s != want) || !c.fits && (e != api.ErrLimit || s != "") {
			t.Errorf("Text of %d tokens: %d bytes, %d", len(tokens), len(s), e)
		}
		if s, e := lexer.Text(append(tokens, name("if"), end())); e != api.ErrArgument || s != "" {
			t.Errorf("Text of %d tokens and an impossible one: %d bytes, %d", len(tokens), len(s), e)
		}
		if s, e := lexer.Text(tokens); e != api.ErrArgument || s != "" {
			t.Errorf("Text of %d tokens without the end: %d bytes, %d", len(tokens), len(s), e)
		}
	}
	// Signs of one byte have room for each second byte: the greatest number of tokens.
	dots := append(slices.Repeat([]api.Token{sign(".")}, lexer.MaxSource/2), end())
	s, e := lexer.Text(dots)
	if e != api.OK || len(s) != lexer.MaxSource-1 {
		t.Errorf("Text of dots: %d bytes, %d", len(s), e)
	}
	if list, fault := lexer.Lex(s); fault != (api.Fault{}) || !slices.Equal(without(list), dots) {
		t.Errorf("Lex of dots: %d tokens, %v", len(list), fault)
	}
}

// TestMemory covers the rules: Text leaves its argument as it is, and Lex returns new memory.
func TestMemory(t *testing.T) {
	tokens := []api.Token{at(3, name("a")), at(9, end())}
	kept := slices.Clone(tokens)
	first, _ := lexer.Text(tokens)
	list, _ := lexer.Lex("a b c")
	again, _ := lexer.Lex("a b c")
	for i := range list {
		list[i] = api.Token{Text: strconv.Itoa(i)}
	}
	third, _ := lexer.Lex("a b c")
	if first != "a" || !slices.Equal(tokens, kept) || !slices.Equal(again, third) {
		t.Errorf("%q, %v, %v, %v", first, tokens, again, third)
	}
}
