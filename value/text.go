package value

import (
	"strconv"
	"strings"

	"plexus/api"
	"plexus/names"
)

// Text returns v as text.
func Text(l api.Lattice, v api.Value) (string, api.Errno) {
	if e := checkElement(l, v); e != api.OK {
		return "", e
	}
	return text(l, v), api.OK
}

// text returns the text of an element of a valid description.
func text(l api.Lattice, v api.Value) string {
	switch l.Kind {
	case api.Flag:
		return strconv.FormatBool(v.N == 1)
	case api.Max, api.Min:
		return strconv.FormatInt(v.N, 10)
	case api.Map:
		return "{" + labelled(v.Names, partTexts(l, v)) + "}"
	case api.Product:
		return "(" + labelled(l.Names, partTexts(l, v)) + ")"
	case api.Lex:
		return "<" + strings.Join(partTexts(l, v), ", ") + ">"
	case api.Flat:
		return flatText(v)
	case api.Register:
		return registerText(v.Entries)
	}
	s, _ := names.Text(v.Names)
	return s
}

// partTexts returns the texts of the parts of an element of a Map, Product or Lex.
func partTexts(l api.Lattice, v api.Value) []string {
	texts := make([]string, len(v.Parts))
	for i := range len(texts) {
		part := l.Parts[0]
		if l.Kind != api.Map {
			part = l.Parts[i]
		}
		texts[i] = text(part, v.Parts[i])
	}
	return texts
}

// labelled returns the texts, each behind its label.
func labelled(labels, texts []string) string {
	list := make([]string, len(texts))
	for i := range len(texts) {
		list[i] = labels[i] + ": " + texts[i]
	}
	return strings.Join(list, ", ")
}

// flatText returns the text of an element of a Flat.
func flatText(v api.Value) string {
	switch v.N {
	case flatBottom:
		return "?"
	case flatTop:
		return "!"
	}
	return v.Names[0]
}

// registerText returns the text of a register.
func registerText(entries []api.Entry) string {
	list := make([]string, len(entries))
	for i, e := range entries {
		ticks := make([]string, len(e.Clock))
		for k, t := range e.Clock {
			ticks[k] = strconv.Itoa(t.Process) + ":" + strconv.FormatInt(t.N, 10)
		}
		list[i] = e.Name + "@" + strings.Join(ticks, ".")
	}
	return "[" + strings.Join(list, " | ") + "]"
}
