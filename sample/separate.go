package sample

import "plexus/api"

// Separate reports whether no two slices in the values of a list share memory, neither within a value nor with another one, and whether it knows the types of them all.
func Separate(values ...any) bool {
	p := places{seen: map[any]bool{}}
	for _, v := range values {
		if !p.add(v) {
			return false
		}
	}
	return !p.twice
}

// places are the addresses of the elements of slices.
type places struct {
	seen  map[any]bool
	twice bool // one of them was seen twice
}

// add adds the places of a value, and reports whether its type is known.
func (p *places) add(v any) bool {
	switch v := v.(type) {
	case string:
	case []byte:
		addAll(p, v, func(byte) {})
	case []string:
		addAll(p, v, func(string) {})
	case api.Lattice:
		p.addLattice(v)
	case []api.Object:
		addAll(p, v, func(o api.Object) { p.addLattice(o.Lattice) })
	case api.Type:
		p.addLattice(v.Lattice)
	case api.Value:
		p.addValue(v)
	case []api.Datum:
		addAll(p, v, p.addDatum)
	case api.Datum:
		p.addDatum(v)
	case api.Node:
		p.addNode(v)
	case api.Expr:
		p.addExpr(v)
	case []api.Param:
		addAll(p, v, func(api.Param) {})
	case api.Function:
		p.addFunction(v)
	case api.Program:
		p.add(v.Objects)
		addAll(p, v.Updates, p.addFunction)
		addAll(p, v.Queries, p.addFunction)
	case api.Message:
		p.addMessage(v)
	case api.Packet:
		p.add(v.Payload)
	case []api.Packet:
		addAll(p, v, func(m api.Packet) { p.add(m) })
	case []api.Delivery:
		addAll(p, v, func(d api.Delivery) { p.add(d.Payload) })
	case []int:
		addAll(p, v, func(int) {})
	case [][]int:
		addAll(p, v, func(list []int) { p.add(list) })
	case [][2]int:
		addAll(p, v, func([2]int) {})
	case []api.Event:
		addAll(p, v, func(e api.Event) { p.add(e.Uses) })
	case [][]api.Event:
		addAll(p, v, func(t []api.Event) { p.add(t) })
	default:
		return false
	}
	return true
}

// addLattice adds the places of a description.
func (p *places) addLattice(l api.Lattice) {
	p.add(l.Names)
	addAll(p, l.Parts, p.addLattice)
	addAll(p, l.Rules, func(r api.Rule) { p.add(r.If) })
}

// addValue adds the places of an element.
func (p *places) addValue(v api.Value) {
	p.add(v.Names)
	addAll(p, v.Parts, p.addValue)
	addAll(p, v.Entries, func(e api.Entry) { addAll(p, e.Clock, func(api.Tick) {}) })
}

// addDatum adds the places of a datum.
func (p *places) addDatum(d api.Datum) { p.add(d.Names) }

// addNode adds the places of a syntax tree.
func (p *places) addNode(n api.Node) { addAll(p, n.Kids, p.addNode) }

// addExpr adds the places of an elaborated expression.
func (p *places) addExpr(x api.Expr) {
	p.addLattice(x.Type.Lattice)
	addAll(p, x.Kids, p.addExpr)
}

// addFunction adds the places of an update or a query.
func (p *places) addFunction(f api.Function) {
	p.add(f.Params)
	p.addExpr(f.Body)
}

// addMessage adds the places of a message.
func (p *places) addMessage(m api.Message) {
	addAll(p, m.Reads, p.addRead)
	addAll(p, m.Base, p.addBase)
	addAll(p, m.State, p.addCommand)
	addAll(p, m.Acks, p.addAck)
	addAll(p, m.Proof, p.addProof)
	addAll(p, m.Digests, p.addDigest)
	p.add(m.Objects)
	addAll(p, m.Items, p.addItem)
}

// addRead adds the places of the identity of a read.
func (p *places) addRead(r api.ReadID) { p.add(r.Tag) }

// addCommand adds the places of a command.
func (p *places) addCommand(c api.Command) {
	addAll(p, c.Writes, func(w api.Write) { p.add(w.Delta) })
	p.add(c.Tag)
}

// addAck adds the places of a signature.
func (p *places) addAck(a api.Ack) { p.add(a.Tag) }

// addCertificate adds the places of a certificate.
func (p *places) addCertificate(c api.Certificate) {
	addAll(p, c.Claim.Reads, p.addRead)
	addAll(p, c.Claim.Base, p.addCommand)
	addAll(p, c.Claim.Conf, p.addCommand)
	p.add(c.Claim.Root)
	addAll(p, c.Acks, p.addAck)
}

// addBase adds the places of a base.
func (p *places) addBase(b api.Base) {
	addAll(p, b.Steps, p.addCertificate)
	addAll(p, b.Taken, p.addCommand)
}

// addProof adds the places of a proof.
func (p *places) addProof(x api.Proof) {
	addAll(p, x.Steps, p.addCertificate)
	p.addCertificate(x.Last)
}

// addItem adds the places of an entry of an authenticated map.
func (p *places) addItem(i api.Item) {
	p.add(i.Content)
	addAll(p, i.Path, func(b []byte) { p.add(b) })
}

// addDigest adds the places of a digest.
func (p *places) addDigest(d api.Digest) {
	p.add(d.Prefix)
	p.add(d.Sum)
}

// addAll adds the places of a slice and of its elements.
func addAll[T any](p *places, list []T, inner func(x T)) {
	// What lies behind the end of a slice can belong to another one.
	all := list[:cap(list)]
	for i := range all {
		p.twice = p.twice || p.seen[&all[i]]
		p.seen[&all[i]] = true
	}
	for _, x := range list {
		inner(x)
	}
}
