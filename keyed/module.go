package keyed

import (
	"bytes"

	"plexus/api"
)

// Module is the sealed device of a process: it signs for its own process at heights that are not below its height, and verifies for all processes.
type Module struct {
	master  []byte
	process int
	height  int
}

// New returns the module of a process, at the height 0.
func New(master []byte, process int) *Module {
	secret := make([]byte, len(master))
	copy(secret, master)
	return &Module{master: secret, process: process}
}

// Process returns the number of the process.
func (m *Module) Process() int { return m.process }

// Height returns the height.
func (m *Module) Height() int { return m.height }

// Raise raises the height; a lower height changes nothing.
func (m *Module) Raise(height int) {
	if height > m.height {
		m.height = height
	}
}

// Sign returns the tag of a message of this process at a height.
func (m *Module) Sign(height int, message []byte) ([]byte, api.Errno) {
	if height < 0 {
		return nil, api.ErrArgument
	}
	if height < m.height {
		return nil, api.ErrStale
	}
	return m.tag(m.process, height, message), api.OK
}

// Verify reports whether a tag is the one of a message of a process at a height.
func (m *Module) Verify(process, height int, message, tag []byte) bool {
	return bytes.Equal(tag, m.tag(process, height, message))
}

// tag is not exported, since with it the module would sign for other processes, and at heights below its own.
func (m *Module) tag(process, height int, message []byte) []byte {
	return Tag(Derive(m.master, process, height), message)
}
