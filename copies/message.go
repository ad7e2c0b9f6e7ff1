package copies

import (
	"bytes"
	"slices"

	"plexus/api"
)

// Message returns a copy of a message.
func Message(m api.Message) api.Message {
	m.Reads, m.Base, m.State = each(m.Reads, readID), each(m.Base, base), each(m.State, command)
	m.Acks, m.Proof, m.Digests = each(m.Acks, ack), each(m.Proof, proof), each(m.Digests, digest)
	m.Objects, m.Items = slices.Clone(m.Objects), each(m.Items, item)
	return m
}

// command returns a copy of a command.
func command(c api.Command) api.Command {
	c.Writes, c.Tag = each(c.Writes, write), bytes.Clone(c.Tag)
	return c
}

// write returns a copy of a part of an update.
func write(w api.Write) api.Write {
	w.Delta = bytes.Clone(w.Delta)
	return w
}

// readID returns a copy of the identity of a read.
func readID(r api.ReadID) api.ReadID {
	r.Tag = bytes.Clone(r.Tag)
	return r
}

// claim returns a copy of a claim.
func claim(c api.Claim) api.Claim {
	c.Reads, c.Base, c.Conf, c.Root = each(c.Reads, readID), each(c.Base, command), each(c.Conf, command), bytes.Clone(c.Root)
	return c
}

// ack returns a copy of a signature.
func ack(a api.Ack) api.Ack {
	a.Tag = bytes.Clone(a.Tag)
	return a
}

// certificate returns a copy of a certificate.
func certificate(c api.Certificate) api.Certificate {
	c.Claim, c.Acks = claim(c.Claim), each(c.Acks, ack)
	return c
}

// base returns a copy of a base.
func base(b api.Base) api.Base {
	b.Steps, b.Taken = each(b.Steps, certificate), each(b.Taken, command)
	return b
}

// proof returns a copy of a proof.
func proof(p api.Proof) api.Proof {
	p.Steps, p.Last = each(p.Steps, certificate), certificate(p.Last)
	return p
}

// item returns a copy of an entry of an authenticated map.
func item(i api.Item) api.Item {
	i.Content, i.Path = bytes.Clone(i.Content), each(i.Path, bytes.Clone)
	return i
}

// digest returns a copy of a digest.
func digest(d api.Digest) api.Digest {
	d.Prefix, d.Sum = bytes.Clone(d.Prefix), bytes.Clone(d.Sum)
	return d
}
