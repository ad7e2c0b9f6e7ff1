package lexer_test

import (
	"math/big"
	"math/rand"
	"regexp"
	"slices"
	"strings"
	"testing"

	"plexus/api"
	"plexus/lexer"
)

// The lists of the chapter.
const (
	allKeywords = "and bool bottom closed conflict else false first flag flat if in int join keys lattice leq lex map max min name names not num number object on one or pair query rec register s second set size sum then true update values write"
	allSigns    = "= : ; , ( ) { } [ ] . + - < <= == =>"
)

// Expressions for what stands at the begin of a source.
var (
	gaps     = regexp.MustCompile(`^([ \t\n\r]|#[^\n]*)*`)
	words    = regexp.MustCompile(`^[a-z][a-z0-9-]*`)
	integers = regexp.MustCompile(`^[0-9]+`)
	quotes   = regexp.MustCompile(`^'[a-z0-9-]*'`)
	names    = regexp.MustCompile(`^[a-z][a-z0-9-]{0,15}$`)
)

// reference returns the first token of a source with the length up to its end, or the fault, at the offset of the token. It follows the definitions of the chapter with regular expressions.
func reference(src string) (api.Token, int, api.Errno) {
	from := len(gaps.FindString(src))
	rest := src[from:]
	if rest == "" {
		return api.Token{Kind: api.TokEnd, At: from}, from, api.OK
	}
	t := api.Token{At: from}
	spelled := ""
	if s := words.FindString(rest); s != "" {
		if !names.MatchString(s) {
			return api.Token{}, 0, api.ErrName
		}
		t.Kind, t.Text, spelled = api.TokName, s, s
		if slices.Contains(strings.Fields(allKeywords), s) {
			t.Kind = api.TokKeyword
		}
	} else if s := integers.FindString(rest); s != "" {
		n, _ := new(big.Int).SetString(s, 10)
		if n.String() != s {
			return api.Token{}, 0, api.ErrSyntax
		}
		if n.Cmp(big.NewInt(1_000_000_000_000_000)) > 0 {
			return api.Token{}, 0, api.ErrRange
		}
		t.Kind, t.N, spelled = api.TokInt, n.Int64(), s
	} else if s := quotes.FindString(rest); s != "" {
		if !names.MatchString(s[1 : len(s)-1]) {
			return api.Token{}, 0, api.ErrName
		}
		t.Kind, t.Text, spelled = api.TokQuoted, s[1:len(s)-1], s
	} else {
		for _, s := range strings.Fields(allSigns) {
			if strings.HasPrefix(rest, s) && len(s) > len(spelled) {
				t.Kind, t.Text, spelled = api.TokSign, s, s
			}
		}
		if spelled == "" {
			return api.Token{}, 0, api.ErrSyntax
		}
	}
	return t, from + len(spelled), api.OK
}

// check compares Next at all offsets, and Lex, with the reference, and what follows from them.
func check(t *testing.T, src string) {
	t.Helper()
	for from := range len(src) + 1 {
		want, length, code := reference(src[from:])
		fault := api.Fault{Code: code}
		if code == api.OK {
			want.At, length = want.At+from, length+from
		} else {
			fault.At = from + len(gaps.FindString(src[from:]))
		}
		if got, behind, f := lexer.Next(src, from); got != want || behind != length || f != fault {
			t.Fatalf("Next of %q at %d: %v, %d, %v; not %v, %d, %v", src, from, got, behind, f, want, length, fault)
		}
	}
	var tokens []api.Token
	behind := 0
	for len(tokens) == 0 || tokens[len(tokens)-1].Kind != api.TokEnd {
		token, next, fault := lexer.Next(src, behind)
		if fault.Code != api.OK {
			if list, f := lexer.Lex(src); f != fault || len(list) != 0 {
				t.Fatalf("Lex(%q): %v, %v; not %v", src, list, f, fault)
			}
			if _, f := lexer.Lex(src[:fault.At]); f != (api.Fault{}) {
				t.Fatalf("Lex(%q): %v", src[:fault.At], f)
			}
			return
		}
		tokens, behind = append(tokens, token), next
	}
	if list, fault := lexer.Lex(src); fault != (api.Fault{}) || !slices.Equal(list, tokens) {
		t.Fatalf("Lex(%q): %v, %v; not %v", src, list, fault, tokens)
	}
	text, e := lexer.Text(tokens)
	list, fault := lexer.Lex(text)
	if e != api.OK || fault != (api.Fault{}) || !slices.Equal(without(list), without(tokens)) {
		t.Fatalf("Text(%v): %q, %d; Lex of it: %v, %v", tokens, text, e, list, fault)
	}
}

// TestShort covers P15.2, P15.3, P15.4 and P15.6 for all short sources of some bytes.
func TestShort(t *testing.T) {
	sources := []string{""}
	for next := 0; next < len(sources); next++ {
		check(t, sources[next])
		if len(sources[next]) < 4 {
			for _, c := range "as01-'=<> \n#A" {
				sources = append(sources, sources[next]+string(c))
			}
		}
	}
}

// pieces are parts of random sources.
var pieces = append(strings.Fields(allKeywords+" "+allSigns+" a b-1 abcdefghijklmnop 0 1 42 1000000000000000 'a' 's' 'x-9'"),
	" ", "\t", "\r", "\n", "  ", "# c", "#\n", "# x ' 00 A\n", "-", "'", "0", "A", "\xff", "\x00", ">", "abcdefghijklmnopq", "1000000000000001", "''")

// TestRandom covers P15.2, P15.3, P15.4 and P15.6 for random sources.
func TestRandom(t *testing.T) {
	source := rand.New(rand.NewSource(1))
	for range 4000 {
		var b strings.Builder
		most := len(pieces) - source.Intn(2)*10 // half of the sources without the pieces that are faults
		for range source.Intn(20) {
			b.WriteString(pieces[source.Intn(most)])
		}
		check(t, b.String())
	}
}

// TestGaps covers P15.6: blanks and comments between two tokens change nothing but offsets.
func TestGaps(t *testing.T) {
	source := rand.New(rand.NewSource(2))
	good := slices.DeleteFunc(slices.Clone(pieces), func(s string) bool {
		list, fault := lexer.Lex(s)
		return fault.Code != api.OK || len(list) != 2
	})
	gap := func() string {
		return []string{" ", "\n", "\r\n\t", "#\n", " # a 'b\n", "\n#A#\n\n", "  "}[source.Intn(7)]
	}
	for range 500 {
		var list []string
		for range source.Intn(20) {
			list = append(list, good[source.Intn(len(good))])
		}
		want, _ := lexer.Lex(strings.Join(list, " "))
		var b strings.Builder
		b.WriteString(gap())
		for _, s := range list {
			b.WriteString(s)
			for range 1 + source.Intn(3) {
				b.WriteString(gap())
			}
		}
		b.WriteString([]string{"", "#", "# x", "#'A"}[source.Intn(4)])
		if got, fault := lexer.Lex(b.String()); fault != (api.Fault{}) || len(want) != len(list)+1 || !slices.Equal(without(got), without(want)) {
			t.Fatalf("Lex(%q): %v, %v; not %v", b.String(), got, fault, want)
		}
	}
}
