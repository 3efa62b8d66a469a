package segment

import (
	"bytes"

	"permafrost/api"
	"permafrost/codec"
	"permafrost/merkle"
	"permafrost/record"
	"permafrost/sha"
)

// Parts of a segment, in the order in which they stand.
const (
	theHead = iota
	aRecord
	theNoughts
	theEnd
)

// parts is a segment that is being read, one part behind the other.
type parts struct {
	next    int
	head    Head
	records []record.Record
	rest    []byte // the records' bytes that are not read yet
	behind  []byte // what stands behind the records
}

// Read refuses whatever Build does not make.
func Read(b []byte) (Head, []record.Record, api.Errno) {
	if len(b) != Size {
		return Head{}, nil, api.ErrArg
	}
	if !bytes.Equal(sum(b[:fieldsSize]), b[fieldsSize:headSize]) {
		return Head{}, nil, api.ErrSum
	}
	p := &parts{}
	for p.next != theEnd {
		if !p.read(b) {
			return Head{}, nil, api.ErrForm
		}
	}
	if !bytes.Equal(merkle.Root(Leaves(p.records)), p.head.Root) {
		return Head{}, nil, api.ErrCorrupt
	}
	return p.head, p.records, api.OK
}

// read goes on where the last call left off: at the head, and then at one more
// record each time, since only the head tells how many there are. No call begins
// at the noughts: the last record alone leads there.
func (p *parts) read(b []byte) bool {
	switch p.next {
	case theHead:
		if !p.readHead(b) {
			return false
		}
		p.next = aRecord
		fallthrough
	case aRecord:
		if !p.readRecord() {
			return false
		}
		if len(p.records) < p.head.Count {
			break
		}
		fallthrough
	case theNoughts:
		if len(p.rest) > 0 || !noughts(p.behind) {
			return false
		}
		p.next = theEnd
	}
	return true
}

// readHead also parts what stands behind the head, by what the head tells.
func (p *parts) readHead(b []byte) bool {
	f := codec.NewReader(b[:headSize])
	p.head = Head{
		Index: f.Short(),
		First: f.Long(),
		Count: f.Short(),
		Bytes: f.Short(),
		Prev:  f.Raw(sha.Size),
		Root:  f.Raw(sha.Size),
	}
	if p.head.Count == 0 || p.head.Bytes > Room {
		return false
	}
	end := headSize + p.head.Bytes
	p.rest, p.behind = b[headSize:end], b[end:]
	return true
}

// readRecord takes what is left of the records' bytes: behind the last one of
// them there is none.
func (p *parts) readRecord() bool {
	r, n, why := record.Decode(p.rest)
	if why != api.OK || r.Seq != p.head.First+uint64(len(p.records)) {
		return false
	}
	p.records = append(p.records, r)
	p.rest = p.rest[n:]
	return true
}

// noughts tells if b has nothing else.
func noughts(b []byte) bool {
	for _, x := range b {
		if x != 0 {
			return false
		}
	}
	return true
}
