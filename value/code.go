package value

import (
	"plexus/api"
	"plexus/lattice"
	"plexus/wire"
)

// Encode returns the canonical encoding of v.
func Encode(l api.Lattice, v api.Value) ([]byte, api.Errno) {
	if e := checkElement(l, v); e != api.OK {
		return nil, e
	}
	var w wire.Writer
	write(&w, l, v)
	return w.Data(), api.OK
}

// Decode returns the element of l whose encoding b is.
func Decode(l api.Lattice, b []byte) (api.Value, api.Errno) {
	if lattice.Check(l) != api.OK {
		return api.Value{}, api.ErrArgument
	}
	r := wire.NewReader(b)
	v := read(r, l)
	if r.End() != api.OK || !isElement(l, v) {
		return api.Value{}, api.ErrSyntax
	}
	return v, api.OK
}

// checkElement returns the error of a call that needs a valid description and an element of it.
func checkElement(l api.Lattice, v api.Value) api.Errno {
	if lattice.Check(l) != api.OK {
		return api.ErrArgument
	}
	if !isElement(l, v) {
		return api.ErrType
	}
	return api.OK
}

// write appends an element of a valid description.
func write(w *wire.Writer, l api.Lattice, v api.Value) {
	switch l.Kind {
	case api.Flag:
		w.Bool(v.N == 1)
	case api.Max, api.Min:
		w.Int(v.N)
	case api.Set, api.Closed:
		w.Uint(uint64(len(v.Names)))
		for _, s := range v.Names {
			w.Text(s)
		}
	case api.Map:
		w.Uint(uint64(len(v.Names)))
		for i, key := range v.Names {
			w.Text(key)
			write(w, l.Parts[0], v.Parts[i])
		}
	case api.Product, api.Lex:
		for i, part := range v.Parts {
			write(w, l.Parts[i], part)
		}
	case api.Flat:
		w.Uint(uint64(v.N))
		if v.N == flatName {
			w.Text(v.Names[0])
		}
	case api.Register:
		writeEntries(w, v.Entries)
	}
}

// writeEntries appends the number of entries, and the entries.
func writeEntries(w *wire.Writer, list []api.Entry) {
	w.Uint(uint64(len(list)))
	for _, e := range list {
		w.Uint(uint64(len(e.Clock)))
		for _, t := range e.Clock {
			w.Uint(uint64(t.Process))
			w.Uint(uint64(t.N))
		}
		w.Text(e.Name)
	}
}

// read reads a value that has the kind of a valid description. Whether it is an element is left to isElement.
func read(r *wire.Reader, l api.Lattice) api.Value {
	var v api.Value
	switch l.Kind {
	case api.Flag:
		if r.Bool() {
			v.N = 1
		}
	case api.Max, api.Min:
		v.N = r.Int()
	case api.Set, api.Closed:
		repeat(r, func() { v.Names = append(v.Names, r.Text()) })
	case api.Map:
		repeat(r, func() {
			v.Names = append(v.Names, r.Text())
			v.Parts = append(v.Parts, read(r, l.Parts[0]))
		})
	case api.Product, api.Lex:
		v.Parts = each(l.Parts, func(part api.Lattice) api.Value { return read(r, part) })
	case api.Flat:
		v.N = int64(r.Uint())
		if v.N == flatName {
			v.Names = []string{r.Text()}
		}
	case api.Register:
		repeat(r, func() { v.Entries = append(v.Entries, readEntry(r)) })
	}
	return v
}

// readEntry reads an entry of a register.
func readEntry(r *wire.Reader) api.Entry {
	var e api.Entry
	repeat(r, func() {
		process := r.Uint()
		if process > api.MaxProcess {
			r.Fail()
			return
		}
		e.Clock = append(e.Clock, api.Tick{Process: int(process), N: int64(r.Uint())})
	})
	e.Name = r.Text()
	return e
}

// repeat reads a count, and then calls next that many times, or until a read has failed.
func repeat(r *wire.Reader, next func()) {
	for range r.Count() {
		if r.Err() != api.OK {
			return
		}
		next()
	}
}
