package op

import (
	"permafrost/api"
	"permafrost/codec"
)

// mostPath is how many bytes a path may have here. Whether there are such names
// is not asked: that is told where it is done.
const mostPath = 200

// mostShort is the greatest number that a Short can tell.
const mostShort = 1<<16 - 1

// asks says of each field whether a Kind asks it, in the order in which they are
// written. The span is At and N.
type asks struct {
	path, to, fd, span, until, snap, data bool
}

// asked is what a Kind asks; false, if it is none.
func asked(kind int) (asks, bool) {
	switch kind {
	case api.Create, api.Mkdir, api.Unlink, api.Rmdir:
		return asks{path: true}, true
	case api.Open, api.List, api.Stat:
		return asks{path: true, snap: true}, true
	case api.Read:
		return asks{fd: true, span: true}, true
	case api.Write:
		return asks{fd: true, data: true}, true
	case api.Close:
		return asks{fd: true, until: true}, true
	case api.Link, api.Rename:
		return asks{path: true, to: true}, true
	case api.Keep:
		return asks{path: true, until: true}, true
	case api.Forget:
		return asks{snap: true}, true
	case api.Tick:
		return asks{until: true}, true
	case api.Take, api.Sync:
		return asks{}, true
	}
	return asks{}, false
}

// tooLong tells if a path or the data that are asked have more bytes than they
// may.
func (a asks) tooLong(o api.Op) bool {
	return a.path && len(o.Path) > mostPath || a.to && len(o.To) > mostPath || a.data && len(o.Data) > api.MaxWrite
}

// inShorts tells if all numbers that are asked, but for times, have room in a
// Short.
func (a asks) inShorts(o api.Op) bool {
	if a.fd && !upTo(o.FD, mostShort) || a.snap && !upTo(o.Snap, mostShort) {
		return false
	}
	return !a.span || upTo(o.At, mostShort) && upTo(o.N, mostShort)
}

// upTo tells if x is a number from 0 to most.
func upTo(x, most int) bool {
	return x >= 0 && x <= most
}

// write is for what has room.
func (a asks) write(w *codec.Writer, o api.Op) {
	if a.path {
		w.Bytes([]byte(o.Path))
	}
	if a.to {
		w.Bytes([]byte(o.To))
	}
	if a.fd {
		w.Short(o.FD)
	}
	if a.span {
		w.Short(o.At)
		w.Short(o.N)
	}
	if a.until {
		w.Long(o.Until)
	}
	if a.snap {
		w.Short(o.Snap)
	}
	if a.data {
		w.Bytes(o.Data)
	}
}

// read goes on where bytes lack: who reads asks the reader in the end.
func (a asks) read(r *codec.Reader) api.Op {
	var o api.Op
	if a.path {
		o.Path = string(r.Bytes())
	}
	if a.to {
		o.To = string(r.Bytes())
	}
	if a.fd {
		o.FD = r.Short()
	}
	if a.span {
		o.At = r.Short()
		o.N = r.Short()
	}
	if a.until {
		o.Until = r.Long()
	}
	if a.snap {
		o.Snap = r.Short()
	}
	if a.data {
		o.Data = r.Bytes()
	}
	return o
}
