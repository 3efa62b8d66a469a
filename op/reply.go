package op

import (
	"permafrost/api"
	"permafrost/codec"
	"permafrost/node"
)

// mostByte is the greatest number that a Byte can tell.
const mostByte = 1<<8 - 1

// EncodeReply has one row of bytes for each reply: a Node that is zero is none,
// and its Flag is all that is written of it.
func EncodeReply(r api.Reply) ([]byte, api.Errno) {
	if !tellable(r) {
		return nil, api.ErrForm
	}
	w := codec.NewWriter()
	w.Byte(int(r.Err))
	w.Short(r.N)
	w.Bytes(r.Data)
	w.Byte(len(r.Names))
	for _, name := range r.Names {
		w.Bytes([]byte(name))
	}
	w.Flag(hasNode(r))
	if hasNode(r) {
		b, _ := node.Encode(r.Node)
		w.Bytes(b)
	}
	return w.Done(), api.OK
}

// DecodeReply reads all parts and asks once, at the end, if they were there. All
// refusals are one here: these are no reply's bytes.
func DecodeReply(b []byte) (api.Reply, api.Errno) {
	r := codec.NewReader(b)
	var x api.Reply
	x.Err = api.Errno(r.Byte())
	x.N = r.Short()
	x.Data = r.Bytes()
	for range r.Byte() {
		x.Names = append(x.Names, string(r.Bytes()))
	}
	why := api.OK
	if r.Flag() {
		x.Node, why = node.Decode(r.Bytes())
	}
	if r.End() != api.OK || why != api.OK || !tellable(x) {
		return api.Reply{}, api.ErrForm
	}
	return x, api.OK
}

// tellable tells if bytes can tell r.
func tellable(r api.Reply) bool {
	if !upTo(int(r.Err), mostByte) || !upTo(r.N, mostShort) {
		return false
	}
	if len(r.Data) > mostShort || len(r.Names) > mostByte {
		return false
	}
	for _, name := range r.Names {
		if len(name) > api.MaxName {
			return false
		}
	}
	return !hasNode(r) || node.Right(r.Node)
}

// hasNode tells if there is a Node. One that is zero is no node's: it has no
// Kind.
func hasNode(r api.Reply) bool {
	return r.Node != api.Node{}
}
