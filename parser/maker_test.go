package parser_test

import (
	"math/rand"
	"slices"
	"strconv"
	"strings"
	"testing"

	"plexus/api"
	"plexus/parser"
)

// maker writes random sources together with their trees. A tree has a depth; in a tower one kid of each node is nearly as deep as the node, so that many constructs are open in it.
type maker struct {
	source  *rand.Rand
	tower   bool
	text    []byte
	offsets []int // of all tokens
	open    int
	limit   int // the offset of the first token that opens a construct in 64 open ones, or -1
}

// newMaker returns a maker that has written nothing.
func newMaker(source *rand.Rand, tower bool) *maker {
	return &maker{source: source, tower: tower, limit: -1}
}

// put writes a token and returns its offset. It may write blanks and comments in front of it, and does so where the tokens would be others without them.
func (m *maker) put(token string) int {
	gaps := []string{" ", "\n", "\t", "\r\n", "  ", "#\n", " # a ) ' A\n", "\n#if\n"}
	if n := len(m.text); n > 0 && strings.ContainsRune(letters+digits+"-<=", rune(m.text[n-1])) && strings.ContainsRune(letters+digits+"-=>", rune(token[0])) {
		m.text = append(m.text, gaps[m.source.Intn(len(gaps))]...)
	}
	for m.source.Intn(4) == 0 {
		m.text = append(m.text, gaps[m.source.Intn(len(gaps))]...)
	}
	at := len(m.text)
	m.text = append(m.text, token...)
	m.offsets = append(m.offsets, at)
	return at
}

// enter writes a token that opens a construct.
func (m *maker) enter(token string) int {
	at := m.put(token)
	if m.open >= parser.MaxNesting && m.limit < 0 {
		m.limit = at
	}
	m.open++
	return at
}

// leave writes the tokens at the end of a construct.
func (m *maker) leave(tokens ...string) {
	for _, token := range tokens {
		m.put(token)
	}
	m.open--
}

// The bytes of names.
const (
	letters = "abcdefghijklmnopqrstuvwxyz"
	digits  = "0123456789"
)

// name returns a random name, which may be a keyword.
func (m *maker) name() string {
	if m.source.Intn(3) == 0 {
		return []string{"set", "s", "if", "a", "in", "names"}[m.source.Intn(6)]
	}
	b := []byte{letters[m.source.Intn(26)]}
	for range m.source.Intn(16) {
		b = append(b, (letters + digits + "-")[m.source.Intn(37)])
	}
	return string(b)
}

// putName writes a name that is no keyword and returns it with its offset.
func (m *maker) putName() (string, int) {
	for {
		s := m.name()
		if !slices.Contains(strings.Fields(allWords), s) {
			return s, m.put(s)
		}
	}
}

// named returns a node for a name.
func (m *maker) named(kind int) api.Node {
	s, at := m.putName()
	return api.Node{Kind: kind, Text: s, At: at}
}

// quote returns a node for a quoted name.
func (m *maker) quote() api.Node {
	s := m.name()
	return api.Node{Kind: api.NodeQuote, Text: s, At: m.put("'" + s + "'")}
}

// integer returns a node for an integer.
func (m *maker) integer() api.Node {
	n := m.source.Int63n([]int64{1, 2, 10, 1000, api.MaxNumber + 1}[m.source.Intn(5)])
	if m.source.Intn(20) == 0 {
		n = api.MaxNumber
	}
	if m.source.Intn(2) == 0 {
		at := m.put("-")
		m.put(strconv.FormatInt(n, 10))
		return api.Node{Kind: api.NodeInt, N: -n, At: at}
	}
	return api.Node{Kind: api.NodeInt, N: n, At: m.put(strconv.FormatInt(n, 10))}
}

// depths returns depths for the kids of a node.
func (m *maker) depths(count, depth int) []int {
	list := make([]int, count)
	for i := range list {
		if !m.tower {
			list[i] = m.source.Intn(max(depth, 1))
		}
	}
	if m.tower && count > 0 {
		list[m.source.Intn(count)] = depth - 1
	}
	return list
}

// commas calls item with depths and writes commas between the items.
func (m *maker) commas(depths []int, item func(depth int) api.Node) []api.Node {
	var list []api.Node
	for i, depth := range depths {
		if i > 0 {
			m.put(",")
		}
		list = append(list, item(depth))
	}
	return list
}

// quotes returns nodes for some quoted names.
func (m *maker) quotes(count int) []api.Node {
	return m.commas(make([]int, count), func(int) api.Node { return m.quote() })
}

// equal reports whether two trees are equal, with their offsets.
func equal(a, b api.Node) bool {
	if a.Kind != b.Kind || a.Text != b.Text || a.N != b.N || a.At != b.At || len(a.Kids) != len(b.Kids) {
		return false
	}
	for i := range a.Kids {
		if !equal(a.Kids[i], b.Kids[i]) {
			return false
		}
	}
	return true
}

// checkMade compares the result for a source with the tree of which it was made.
func checkMade(t *testing.T, m *maker, parse parse, want api.Node) {
	t.Helper()
	text := string(m.text)
	n, fault := parse(text)
	if m.limit >= 0 {
		if fault != (api.Fault{Code: api.ErrLimit, At: m.limit}) || !equal(n, api.Node{}) {
			t.Fatalf("%q: %v, not at %d", text, fault, m.limit)
		}
		return
	}
	if fault != (api.Fault{}) || !equal(n, want) {
		t.Fatalf("%q: %s, %v; not %s", text, dump(n), fault, dump(want))
	}
	again, _ := parse(text)
	pointers := nodes(&n)
	other, _ := parse(text)
	changed := nodes(&other)[m.source.Intn(len(pointers))]
	*changed = []api.Node{{Kind: changed.Kind + 1, Text: changed.Text, N: changed.N, Kids: changed.Kids}, {Kind: changed.Kind, Text: changed.Text + "a", N: changed.N, Kids: changed.Kids}, {Kind: changed.Kind, Text: changed.Text, N: changed.N + 1, Kids: changed.Kids}, {Kind: changed.Kind, Text: changed.Text, N: changed.N, Kids: append(changed.Kids, api.Node{})}}[m.source.Intn(4)]
	if parser.Size(n) != len(pointers) || !parser.Same(n, again) || parser.Same(n, other) || parser.Same(other, n) {
		t.Fatalf("%q: Size %d, Same %t and %t", text, parser.Size(n), parser.Same(n, again), parser.Same(n, other))
	}
	// What is written into the nodes of a tree, or behind the ends of their kids, belongs to one node alone and to this tree.
	for i, p := range pointers {
		p.N = int64(i)
		p.At++
		_ = append(p.Kids, api.Node{Kind: -1, N: -1})
	}
	for i, p := range nodes(&n) {
		if p.N != int64(i) || p != pointers[i] {
			t.Fatalf("%q: the nodes share memory", text)
		}
	}
	if !equal(again, want) {
		t.Fatalf("%q: two trees share memory", text)
	}
}

// TestMadeTrees covers P16.1, P16.2 and P16.3 for random sources, whose trees are known.
func TestMadeTrees(t *testing.T) {
	source := rand.New(rand.NewSource(3))
	for range 3000 {
		m := newMaker(source, false)
		n := m.expression(0, source.Intn(5))
		checkMade(t, m, parser.Expression, n)
		if inner, fault := parser.Expression("((" + string(m.text) + "\n))"); m.limit < 0 && (fault != (api.Fault{}) || !parser.Same(inner, n)) {
			t.Fatalf("%q in parentheses: %v", m.text, fault)
		}
		m = newMaker(source, false)
		n = m.lattice(source.Intn(5))
		checkMade(t, m, parser.Lattice, n)
		m = newMaker(source, false)
		n = m.program(source.Intn(5))
		checkMade(t, m, parser.Parse, n)
	}
}

// TestMadeTowers covers P16.1 for random sources in which about as many constructs are open as there may be.
func TestMadeTowers(t *testing.T) {
	source := rand.New(rand.NewSource(4))
	fits, limited := 0, 0
	count := func(m *maker) {
		if m.limit < 0 {
			fits++
		} else {
			limited++
		}
	}
	for range 1000 {
		m := newMaker(source, true)
		n := m.expression(0, 40+source.Intn(160))
		checkMade(t, m, parser.Expression, n)
		count(m)
		m = newMaker(source, true)
		n = m.lattice(55 + source.Intn(20))
		checkMade(t, m, parser.Lattice, n)
		count(m)
	}
	if fits < 200 || limited < 200 {
		t.Errorf("%d trees are accepted, %d are not", fits, limited)
	}
}

// TestConcatenation covers P16.2: the declarations of two programs, one after the other, are a program.
func TestConcatenation(t *testing.T) {
	source := rand.New(rand.NewSource(5))
	for range 300 {
		a, b := newMaker(source, false), newMaker(source, false)
		x, y := a.program(3), b.program(3)
		n, fault := parser.Parse(string(a.text) + string(b.text))
		want := api.Node{Kind: api.NodeProgram, Kids: append(x.Kids, y.Kids...)}
		if fault != (api.Fault{}) || !parser.Same(n, want) {
			t.Fatalf("%q and %q: %s, %v", a.text, b.text, dump(n), fault)
		}
	}
}
