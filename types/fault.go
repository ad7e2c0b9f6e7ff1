package types

import "plexus/api"

// faults keeps the first fault that is found. What is computed behind it is not used.
type faults struct {
	fault api.Fault
}

// failed reports whether there was a fault.
func (f *faults) failed() bool {
	return f.fault.Code != api.OK
}

// fail notes a fault at an offset, unless there was one before.
func (f *faults) fail(code api.Errno, at int) {
	f.add(api.Fault{Code: code, At: at})
}

// add notes a fault that was found elsewhere, or that there was none.
func (f *faults) add(fault api.Fault) {
	if !f.failed() {
		f.fault = fault
	}
}

// malformed returns the fault of arguments for which the chapter promises no result.
func malformed(n api.Node) api.Fault {
	return api.Fault{Code: api.ErrArgument, At: n.At}
}
