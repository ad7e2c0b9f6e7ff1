package frame

import "plexus/api"

// payload goes through the payload of a message. If there is no such kind, it ends behind To.
func payload(c coder, m *api.Message) {
	c.natural(&m.Kind)
	c.integer(&m.From)
	c.integer(&m.To)
	for _, u := range uses(m.Kind) {
		oneField(c, m, u.field)
	}
}

// oneField goes through a field of a message.
func oneField(c coder, m *api.Message, field int) {
	switch field {
	case fieldRound:
		round(c, &m.Round)
	case fieldReads:
		list(c, &m.Reads, read)
	case fieldBase:
		list(c, &m.Base, base)
	case fieldState:
		list(c, &m.State, command)
	case fieldAcks:
		list(c, &m.Acks, ack)
	case fieldProof:
		list(c, &m.Proof, proof)
	case fieldDigests:
		list(c, &m.Digests, digest)
	case fieldObjects:
		list(c, &m.Objects, coder.text)
	case fieldSeq:
		c.integer(&m.Seq)
	case fieldItems:
		list(c, &m.Items, item)
	}
}

// list goes through a list. One that is read is empty before, and grows only as its elements are read, since the number of elements can be a lie.
func list[T any](c coder, elements *[]T, one func(c coder, x *T)) {
	for i := range c.count(len(*elements)) {
		if i == len(*elements) {
			*elements = append(*elements, *new(T))
		}
		one(c, &(*elements)[i])
	}
}

// round goes through a round.
func round(c coder, x *api.Round) {
	c.integer(&x.Replica)
	c.integer(&x.Life)
	c.integer(&x.Number)
}

// read goes through the identity of a read.
func read(c coder, x *api.ReadID) {
	c.integer(&x.Client)
	c.integer(&x.Number)
	c.bytes(&x.Tag)
}

// command goes through a command.
func command(c coder, x *api.Command) {
	c.integer(&x.Client)
	c.integer(&x.Seq)
	c.integer(&x.Kind)
	list(c, &x.Writes, write)
	c.integer(&x.Replica)
	c.bytes(&x.Tag)
}

// write goes through a part of an update.
func write(c coder, x *api.Write) {
	c.text(&x.Object)
	c.bytes(&x.Delta)
}

// claim goes through a claim.
func claim(c coder, x *api.Claim) {
	round(c, &x.Round)
	list(c, &x.Reads, read)
	list(c, &x.Base, command)
	list(c, &x.Conf, command)
	c.integer(&x.Count)
	c.bytes(&x.Root)
}

// ack goes through a signature of a replica.
func ack(c coder, x *api.Ack) {
	c.integer(&x.Replica)
	c.bytes(&x.Tag)
}

// certificate goes through a certificate.
func certificate(c coder, x *api.Certificate) {
	claim(c, &x.Claim)
	list(c, &x.Acks, ack)
}

// base goes through a base.
func base(c coder, x *api.Base) {
	list(c, &x.Steps, certificate)
	list(c, &x.Taken, command)
}

// proof goes through a proof.
func proof(c coder, x *api.Proof) {
	list(c, &x.Steps, certificate)
	certificate(c, &x.Last)
}

// digest goes through the digest of a part of a state.
func digest(c coder, x *api.Digest) {
	c.bytes(&x.Prefix)
	c.bytes(&x.Sum)
	c.integer(&x.Count)
}

// item goes through an entry of an authenticated map.
func item(c coder, x *api.Item) {
	c.text(&x.Key)
	c.boolean(&x.Present)
	c.bytes(&x.Content)
	list(c, &x.Path, coder.bytes)
}
