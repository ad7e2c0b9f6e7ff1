package lattice

import (
	"plexus/api"
	"plexus/wire"
)

// Encode returns the encoding of a valid description.
func Encode(l api.Lattice) []byte {
	if Check(l) != api.OK {
		return nil
	}
	var w wire.Writer
	write(&w, l)
	return w.Data()
}

// Decode returns the description of an encoding.
func Decode(b []byte) (api.Lattice, api.Errno) {
	r := wire.NewReader(b)
	l := read(r, 1)
	if r.End() != api.OK || Check(l) != api.OK {
		return api.Lattice{}, api.ErrSyntax
	}
	return l, api.OK
}

// write appends a valid description.
func write(w *wire.Writer, l api.Lattice) {
	w.Uint(uint64(l.Kind))
	switch l.Kind {
	case api.Max, api.Min:
		w.Int(l.Lo)
		w.Int(l.Hi)
	case api.Set, api.Flat:
		writeNames(w, l.Names)
	case api.Map:
		writeNames(w, l.Names)
		write(w, l.Parts[0])
	case api.Product:
		w.Uint(uint64(len(l.Names)))
		for i, name := range l.Names {
			w.Text(name)
			write(w, l.Parts[i])
		}
	case api.Lex:
		write(w, l.Parts[0])
		write(w, l.Parts[1])
	case api.Closed:
		writeNames(w, l.Names)
		w.Uint(uint64(len(l.Rules)))
		for _, rule := range l.Rules {
			writeNames(w, rule.If)
			w.Text(rule.Then)
		}
	}
}

// writeNames appends the number of names, and the names.
func writeNames(w *wire.Writer, list []string) {
	w.Uint(uint64(len(list)))
	for _, s := range list {
		w.Text(s)
	}
}

// read reads a description whose root has this depth. Most of the conditions of a valid one are left to Check; only what bounds the recursion and the memory is refused here.
func read(r *wire.Reader, depth int) api.Lattice {
	kind := r.Uint()
	if depth > maxDepth || kind > api.Closed {
		r.Fail()
		return api.Lattice{}
	}
	l := api.Lattice{Kind: int(kind)}
	switch l.Kind {
	case api.Max, api.Min:
		l.Lo = r.Int()
		l.Hi = r.Int()
	case api.Set, api.Flat:
		l.Names = readNames(r)
	case api.Map:
		l.Names = readNames(r)
		l.Parts = []api.Lattice{read(r, depth+1)}
	case api.Product:
		for range readCount(r, maxFields) {
			l.Names = append(l.Names, r.Text())
			l.Parts = append(l.Parts, read(r, depth+1))
		}
	case api.Lex:
		chain := read(r, depth+1)
		l.Parts = []api.Lattice{chain, read(r, depth+1)}
	case api.Closed:
		l.Names = readNames(r)
		for range readCount(r, maxRules) {
			premises := readNames(r)
			l.Rules = append(l.Rules, api.Rule{If: premises, Then: r.Text()})
		}
	}
	return l
}

// readNames reads the number of names, and the names.
func readNames(r *wire.Reader) []string {
	var list []string
	for range readCount(r, maxNames) {
		list = append(list, r.Text())
	}
	return list
}

// readCount reads the number of elements of a list that has at most limit of them in a valid description.
func readCount(r *wire.Reader, limit int) int {
	count := r.Count()
	if count > limit {
		r.Fail()
		return 0
	}
	return count
}
