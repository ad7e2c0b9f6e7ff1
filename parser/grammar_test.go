package parser_test

import (
	"math/rand"
	"regexp"
	"slices"
	"strconv"
	"strings"
	"testing"

	"plexus/api"
	"plexus/lexer"
	"plexus/parser"
)

// grammarText is the grammar of the chapter, with one production for each form of a call.
const grammarText = `
program     = { declaration }
declaration = "lattice" NAME "=" lattice ";"
            | "object" NAME ":" lattice ";"
            | "update" NAME "(" [ params ] ")" "on" NAME "=" expression ";"
            | "query" NAME "(" [ params ] ")" "on" NAME ":" sort "=" expression ";"
params      = param { "," param }
param       = NAME ":" sort
sort        = "int" | "bool" | "name" | "names"
lattice     = "flag" | "register" | NAME
            | ( "set" | "flat" ) [ "(" quotes ")" ]
            | "map" [ "(" quotes ")" ] lattice
            | ( "max" | "min" ) "(" integer "," integer ")"
            | "lex" "(" lattice "," lattice ")"
            | "{" member { "," member } "}"
            | "closed" "(" [ quotes ] { ";" rule } ")"
member      = NAME ":" lattice
quotes      = QUOTE { "," QUOTE }
rule        = [ quotes ] "=>" QUOTE
integer     = [ "-" ] INT
expression  = "if" expression "then" expression "else" expression | or
or          = and { "or" and }
and         = not { "and" not }
not         = "not" not | comparison
comparison  = joined [ ( "<=" | "<" | "==" | "in" | "leq" ) joined ]
joined      = sum { "join" sum }
sum         = postfix { ( "+" | "-" ) postfix }
postfix     = primary { "." NAME | "[" expression "]" }
primary     = integer | "true" | "false" | QUOTE | NAME | "s" | "bottom"
            | "(" expression ")"
            | "rec" "(" [ field { "," field } ] ")"
            | "map" "(" [ entry { "," entry } ] ")"
            | function "(" [ expression { "," expression } ] ")"
function    = "flag" | "num" | "set" | "pair" | "one" | "write" | "size" | "sum"
            | "number" | "on" | "keys" | "values" | "first" | "second" | "conflict"
field       = NAME ":" expression
entry       = expression ":" expression
`

// production is a rule of a grammar without brackets. Terminals are NAME, INT, QUOTE, and what is in quotation marks.
type production struct {
	left  string
	right []string
}

// grammar is a list of productions, and which of the left sides can be empty.
type grammar struct {
	productions []production
	nullable    map[string]bool
	words       []string // what of the text has not been read
	fresh       int      // how many groups have got a name
}

// newGrammar reads grammarText.
func newGrammar() *grammar {
	g := &grammar{nullable: map[string]bool{}}
	for _, text := range regexp.MustCompile(`\n\b`).Split(strings.TrimSpace(grammarText), -1) {
		g.words = regexp.MustCompile(`"[^"]*"|[A-Za-z]+|[][|{}()=]`).FindAllString(text, -1)
		left := g.words[0]
		g.words = g.words[2:]
		g.alternatives(left)
	}
	for changed := true; changed; {
		changed = false
		for _, p := range g.productions {
			if !g.nullable[p.left] && !slices.ContainsFunc(p.right, func(s string) bool { return !g.nullable[s] }) {
				g.nullable[p.left], changed = true, true
			}
		}
	}
	return g
}

// alternatives reads right sides up to a closing bracket or the end.
func (g *grammar) alternatives(left string) {
	right := []string{}
	for len(g.words) > 0 && !strings.Contains(")]}", g.words[0]) {
		word := g.words[0]
		g.words = g.words[1:]
		switch word {
		case "|":
			g.productions = append(g.productions, production{left, right})
			right = []string{}
		case "(", "[", "{":
			right = append(right, g.group(word))
		default:
			right = append(right, word)
		}
	}
	g.productions = append(g.productions, production{left, right})
}

// group reads what is in brackets and returns a name for it.
func (g *grammar) group(bracket string) string {
	name := "group " + strconv.Itoa(g.fresh)
	g.fresh++
	inner := name
	if bracket == "{" {
		inner = name + " once"
		g.productions = append(g.productions, production{name, []string{inner, name}})
	}
	g.alternatives(inner)
	g.words = g.words[1:]
	if bracket != "(" {
		g.productions = append(g.productions, production{name, nil})
	}
	return name
}

// item is a production that has been read up to a place, since the place from of the source.
type item struct {
	production, dot, from int
}

// chart contains the items at each place of a source (Earley's algorithm). All nonterminals have words, so a source with items at its end is the beginning of one that is accepted.
type chart struct {
	grammar *grammar
	start   string
	sets    [][]item
}

// newChart returns the chart of the empty source.
func newChart(g *grammar, start string) *chart {
	c := &chart{grammar: g, start: start}
	var first []item
	for i, p := range g.productions {
		if p.left == start {
			first = append(first, item{i, 0, 0})
		}
	}
	c.add(first)
	return c
}

// add appends the set of the items that follow from some.
func (c *chart) add(list []item) {
	g, place := c.grammar, len(c.sets)
	seen := map[item]bool{}
	c.sets = append(c.sets, nil)
	put := func(i item) {
		if !seen[i] {
			seen[i] = true
			c.sets[place] = append(c.sets[place], i)
		}
	}
	for _, i := range list {
		put(i)
	}
	for next := 0; next < len(c.sets[place]); next++ {
		i := c.sets[place][next]
		p := g.productions[i.production]
		if i.dot == len(p.right) {
			for _, waiting := range c.sets[i.from] {
				if q := g.productions[waiting.production]; waiting.dot < len(q.right) && q.right[waiting.dot] == p.left {
					put(item{waiting.production, waiting.dot + 1, waiting.from})
				}
			}
			continue
		}
		for k, q := range g.productions {
			if q.left == p.right[i.dot] {
				put(item{k, 0, place})
			}
		}
		if g.nullable[p.right[i.dot]] {
			put(item{i.production, i.dot + 1, i.from})
		}
	}
}

// after returns the items behind a terminal.
func (c *chart) after(terminal string) []item {
	var list []item
	for _, i := range c.sets[len(c.sets)-1] {
		if p := c.grammar.productions[i.production]; i.dot < len(p.right) && p.right[i.dot] == terminal {
			list = append(list, item{i.production, i.dot + 1, i.from})
		}
	}
	return list
}

// accepts reports whether the source is one.
func (c *chart) accepts() bool {
	return slices.ContainsFunc(c.sets[len(c.sets)-1], func(i item) bool {
		p := c.grammar.productions[i.production]
		return p.left == c.start && i.dot == len(p.right) && i.from == 0
	})
}

// allWords are the keywords and the signs.
const allWords = "and bool bottom closed conflict else false first flag flat if in int join keys lattice leq lex map max min name names not num number object on one or pair query rec register s second set size sum then true update values write = : ; , ( ) { } [ ] . + - < <= == =>"

// terminals returns all terminals, also those that the grammar does not contain, each with a spelling.
func terminals() [][2]string {
	all := [][2]string{{"NAME", "a"}, {"INT", "7"}, {"QUOTE", "'a'"}}
	for _, word := range strings.Fields(allWords) {
		all = append(all, [2]string{`"` + word + `"`, word})
	}
	return all
}

// starts returns the functions that return trees, with what of the grammar they accept.
func starts() []start {
	return []start{{"program", parser.Parse}, {"expression", parser.Expression}, {"lattice", parser.Lattice}}
}

// start is a function that returns trees, with what of the grammar it accepts.
type start struct {
	left  string
	parse parse
}

// checkNext compares the fault of a source, and of all that have one token more, with the grammar. It returns the terminals with which the source can go on.
func checkNext(t *testing.T, c *chart, parse parse, source string) [][2]string {
	t.Helper()
	want := api.Fault{Code: api.ErrSyntax, At: len(source)}
	if c.accepts() {
		want = api.Fault{}
	}
	if _, fault := parse(source); fault != want {
		t.Fatalf("%q: %v, not %v", source, fault, want)
	}
	var list [][2]string
	for _, terminal := range terminals() {
		if len(c.after(terminal[0])) > 0 {
			list = append(list, terminal)
			continue
		}
		want := api.Fault{Code: api.ErrSyntax, At: len(source) + 1}
		for _, more := range []string{"", " a", " )"} {
			text := source + " " + terminal[1] + more
			if n, fault := parse(text); fault != want || !equal(n, api.Node{}) {
				t.Fatalf("%q: %v, not %v", text, fault, want)
			}
		}
	}
	return list
}

// TestShortSources covers P16.1 for all sources of up to two tokens that can be the begin of one, and each token behind them.
func TestShortSources(t *testing.T) {
	g := newGrammar()
	for _, from := range starts() {
		count := 0
		var visit func(c *chart, source string, left int)
		visit = func(c *chart, source string, left int) {
			list := checkNext(t, c, from.parse, source)
			count++
			if left == 0 {
				return
			}
			for _, terminal := range list {
				longer := &chart{g, from.left, slices.Clone(c.sets)}
				longer.add(c.after(terminal[0]))
				visit(longer, source+" "+terminal[1], left-1)
			}
		}
		visit(newChart(g, from.left), "", 2)
		if count < 9 {
			t.Errorf("only %d sources of a %s", count, from.left)
		}
	}
}

// TestRandomSources covers P16.1 for random begins of sources, and each token behind them.
func TestRandomSources(t *testing.T) {
	g := newGrammar()
	source := rand.New(rand.NewSource(1))
	for _, from := range starts() {
		accepted := 0
		for range 25 {
			c, text := newChart(g, from.left), ""
			for range 40 {
				list := checkNext(t, c, from.parse, text)
				if c.accepts() {
					accepted++
				}
				if len(list) == 0 {
					break
				}
				terminal := list[source.Intn(len(list))]
				for _, other := range list {
					// Without a preference for what ends a construct, hardly any source would be accepted.
					if strings.Contains(`")" "}" "]" ";" "then" "else" QUOTE NAME`, other[0]) && source.Intn(4) == 0 {
						terminal = other
					}
				}
				c.add(c.after(terminal[0]))
				text += " " + terminal[1]
			}
		}
		if accepted < 25 {
			t.Errorf("only %d sources of a %s are accepted", accepted, from.left)
		}
	}
}

// TestFaultStays covers P16.2: a fault depends only on the tokens up to it.
func TestFaultStays(t *testing.T) {
	source := rand.New(rand.NewSource(2))
	all := strings.Fields("object a : set ; update ( x int ) on = s + 1 'b' map { } [ ] , if then else not lex")
	some := func(count int) string {
		var list []string
		for range count {
			list = append(list, all[source.Intn(len(all))])
		}
		return strings.Join(list, " ")
	}
	faults := 0
	for range 3000 {
		for _, from := range starts() {
			text := []string{"", "object a : set ; ", "update u ( x : int ) on a = "}[source.Intn(3)] + some(1+source.Intn(12))
			_, fault := from.parse(text)
			if fault == (api.Fault{}) || fault.At == len(text) {
				continue
			}
			faults++
			tokens, _ := lexer.Lex(text[:fault.At])
			_, behind, _ := lexer.Next(text, fault.At)
			for _, other := range []string{text[:behind], text[:behind] + " " + some(5), text[:behind] + "#\n" + some(30)} {
				if _, f := from.parse(other); f != fault {
					t.Fatalf("%s %q: %v; %q: %v", from.left, text, fault, other, f)
				}
			}
			again, _ := lexer.Text(tokens)
			if _, f := from.parse(again); len(tokens) > 1 && f.Code == api.ErrSyntax && f.At < len(again) {
				t.Fatalf("%s %q: %v; %q: %v", from.left, text, fault, again, f)
			}
		}
	}
	if faults < 1000 {
		t.Errorf("only %d faults", faults)
	}
}
