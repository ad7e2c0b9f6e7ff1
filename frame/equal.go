package frame

import (
	"bytes"
	"slices"

	"plexus/api"
)

// Equal reports whether a and b have the same content.
func Equal(a, b api.Message) bool {
	return a.Kind == b.Kind && a.From == b.From && a.To == b.To && a.Round == b.Round && a.Seq == b.Seq &&
		slices.EqualFunc(a.Reads, b.Reads, equalReads) &&
		slices.EqualFunc(a.Base, b.Base, equalBases) &&
		slices.EqualFunc(a.State, b.State, equalCommands) &&
		slices.EqualFunc(a.Acks, b.Acks, equalAcks) &&
		slices.EqualFunc(a.Proof, b.Proof, equalProofs) &&
		slices.EqualFunc(a.Digests, b.Digests, equalDigests) &&
		slices.Equal(a.Objects, b.Objects) &&
		slices.EqualFunc(a.Items, b.Items, equalItems)
}

// equalReads reports whether two identities of reads are equal.
func equalReads(a, b api.ReadID) bool {
	return a.Client == b.Client && a.Number == b.Number && bytes.Equal(a.Tag, b.Tag)
}

// equalCommands reports whether two commands are equal.
func equalCommands(a, b api.Command) bool {
	return a.Client == b.Client && a.Seq == b.Seq && a.Kind == b.Kind && slices.EqualFunc(a.Writes, b.Writes, equalWrites) &&
		a.Replica == b.Replica && bytes.Equal(a.Tag, b.Tag)
}

// equalWrites reports whether two parts of updates are equal.
func equalWrites(a, b api.Write) bool {
	return a.Object == b.Object && bytes.Equal(a.Delta, b.Delta)
}

// equalClaims reports whether two claims are equal.
func equalClaims(a, b api.Claim) bool {
	return a.Round == b.Round && slices.EqualFunc(a.Reads, b.Reads, equalReads) && slices.EqualFunc(a.Base, b.Base, equalCommands) &&
		slices.EqualFunc(a.Conf, b.Conf, equalCommands) && a.Count == b.Count && bytes.Equal(a.Root, b.Root)
}

// equalAcks reports whether two signatures are equal.
func equalAcks(a, b api.Ack) bool {
	return a.Replica == b.Replica && bytes.Equal(a.Tag, b.Tag)
}

// equalCertificates reports whether two certificates are equal.
func equalCertificates(a, b api.Certificate) bool {
	return equalClaims(a.Claim, b.Claim) && slices.EqualFunc(a.Acks, b.Acks, equalAcks)
}

// equalBases reports whether two bases are equal.
func equalBases(a, b api.Base) bool {
	return slices.EqualFunc(a.Steps, b.Steps, equalCertificates) && slices.EqualFunc(a.Taken, b.Taken, equalCommands)
}

// equalProofs reports whether two proofs are equal.
func equalProofs(a, b api.Proof) bool {
	return slices.EqualFunc(a.Steps, b.Steps, equalCertificates) && equalCertificates(a.Last, b.Last)
}

// equalDigests reports whether two digests of parts of states are equal.
func equalDigests(a, b api.Digest) bool {
	return bytes.Equal(a.Prefix, b.Prefix) && bytes.Equal(a.Sum, b.Sum) && a.Count == b.Count
}

// equalItems reports whether two entries of authenticated maps are equal.
func equalItems(a, b api.Item) bool {
	return a.Key == b.Key && a.Present == b.Present && bytes.Equal(a.Content, b.Content) && slices.EqualFunc(a.Path, b.Path, bytes.Equal)
}
