package sample

import "plexus/api"

// AnyMessage returns a random message that has something in all of its fields, whatever its kind uses.
func AnyMessage(intn func(n int) int) api.Message {
	m := messages{intn: intn}
	return api.Message{
		Kind: intn(10), From: intn(api.MaxProcess + 1), To: intn(api.MaxProcess + 1), Round: m.round(), Seq: intn(100),
		Reads: several(intn, m.read), Base: several(intn, m.base), State: several(intn, m.command), Acks: several(intn, m.ack), Proof: several(intn, m.proof),
		Digests: several(intn, m.digest), Objects: several(intn, m.text), Items: several(intn, m.item),
	}
}

// messages makes the parts of messages.
type messages struct{ intn func(n int) int }

// several returns one or two things.
func several[T any](intn func(n int) int, makeOne func() T) []T {
	list := []T{makeOne()}
	if intn(2) == 0 {
		list = append(list, makeOne())
	}
	return list
}

// letter returns a letter.
func (m messages) letter() byte { return byte('a' + m.intn(26)) }

// bytes returns a byte string.
func (m messages) bytes() []byte { return several(m.intn, m.letter) }

// text returns a name.
func (m messages) text() string { return string(m.bytes()) }

// round returns a round.
func (m messages) round() api.Round {
	return api.Round{Replica: m.intn(api.MaxReplicas), Life: m.intn(5), Number: m.intn(100)}
}

// read returns the identity of a read.
func (m messages) read() api.ReadID {
	return api.ReadID{Client: m.intn(api.MaxClients), Number: m.intn(100), Tag: m.bytes()}
}

// command returns a command.
func (m messages) command() api.Command {
	write := func() api.Write { return api.Write{Object: m.text(), Delta: m.bytes()} }
	return api.Command{Client: m.intn(api.MaxClients), Seq: m.intn(100), Kind: 1 + m.intn(3), Writes: several(m.intn, write), Replica: m.intn(api.MaxReplicas), Tag: m.bytes()}
}

// ack returns a signature of a replica.
func (m messages) ack() api.Ack {
	return api.Ack{Replica: m.intn(api.MaxReplicas), Tag: m.bytes()}
}

// certificate returns a certificate.
func (m messages) certificate() api.Certificate {
	claim := api.Claim{Round: m.round(), Reads: several(m.intn, m.read), Base: several(m.intn, m.command), Conf: several(m.intn, m.command), Count: m.intn(100), Root: m.bytes()}
	return api.Certificate{Claim: claim, Acks: several(m.intn, m.ack)}
}

// base returns a base.
func (m messages) base() api.Base {
	return api.Base{Steps: several(m.intn, m.certificate), Taken: several(m.intn, m.command)}
}

// proof returns a proof.
func (m messages) proof() api.Proof {
	return api.Proof{Steps: several(m.intn, m.certificate), Last: m.certificate()}
}

// item returns an entry of an authenticated map.
func (m messages) item() api.Item {
	return api.Item{Key: m.text(), Present: m.intn(2) == 0, Content: m.bytes(), Path: several(m.intn, m.bytes)}
}

// digest returns the digest of a part of a state.
func (m messages) digest() api.Digest {
	return api.Digest{Prefix: m.bytes(), Sum: m.bytes(), Count: m.intn(100)}
}
