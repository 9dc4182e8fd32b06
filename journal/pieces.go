package journal

import (
	"escapement/api"
	"escapement/sum"
)

// Kinds of pieces.
const (
	aRecord byte = 1
	anImage byte = 2
)

// Bytes of a segment's head, of what stands ahead of a piece's payload, and
// of these what their sums are made of.
const (
	headSize   = 24
	headSummed = 20
	leadSize   = 17
	leadSummed = 13
)

// held is what segments hold.
type held struct {
	begun   bool // there is a B, a segment that begins with the image
	image   []byte
	records [][]byte
	next    int
}

// headOf is the head of a segment.
func headOf(seg, base int) [headSize]byte {
	head := [headSize]byte{'E', 'S', 'C', '1'}
	write(head[4:12], seg)
	write(head[12:headSummed], base)
	write(head[headSummed:], int(sum.Sum(head[:headSummed])))
	return head
}

// baseOf is the base that a segment's head tells, if that is right.
func baseOf(seg int, text []byte) (int, bool) {
	if len(text) < headSize {
		return 0, false
	}
	var head [headSize]byte
	copy(head[:], text)
	base := read(head[12:headSummed])
	if base < 1 || base > api.MaxCount+1 || head != headOf(seg, base) {
		return 0, false
	}
	return base, true
}

// leadOf is what stands ahead of a piece's payload.
func leadOf(kind byte, number int, payload []byte) [leadSize]byte {
	var lead [leadSize]byte
	write(lead[:4], len(payload))
	lead[4] = kind
	write(lead[5:leadSummed], number)
	write(lead[leadSummed:], int(sum.Sum(lay(lead[:leadSummed], payload))))
	return lead
}

// pieceOf is a piece, whole.
func pieceOf(kind byte, number int, payload []byte) []byte {
	lead := leadOf(kind, number, payload)
	return lay(lead[:], payload)
}

// firstPiece is the kind and the payload of the piece that text begins with,
// if it is right and bears the number.
func firstPiece(text []byte, number int) (byte, []byte, bool) {
	if len(text) < leadSize {
		return 0, nil, false
	}
	var lead [leadSize]byte
	copy(lead[:], text)
	kind, size := lead[4], read(lead[:4])
	if size > most(kind) || size > len(text)-leadSize {
		return 0, nil, false
	}
	payload := text[leadSize : leadSize+size]
	if lead != leadOf(kind, number, payload) {
		return 0, nil, false
	}
	return kind, payload, true
}

// most is how many bytes a payload may have; below 0 where there is no such kind.
func most(kind byte) int {
	switch kind {
	case aRecord:
		return api.MaxRecord
	case anImage:
		return api.MaxImage
	}
	return -1
}

// scan tells what the pieces of a segment hold whose head is right.
func scan(text []byte, base int) held {
	found := held{next: base}
	at := headSize
pieces:
	for {
		kind, payload, right := firstPiece(text[at:], found.next)
		switch {
		case !right:
			break pieces
		case kind == anImage && at == headSize:
			found.begun, found.image = true, lay(payload)
		case kind == aRecord && found.next <= api.MaxCount:
			found.records = append(found.records, lay(payload))
			found.next++
		default:
			break pieces
		}
		at += leadSize + len(payload)
	}
	return found
}

// follow takes in a segment that is greater than all that were taken in so
// far, and tells whether it is B as far as can be seen: a later image leaves
// nothing of what was ahead of it, so that one way up is enough.
func (h *held) follow(seg int, text []byte) bool {
	base, right := baseOf(seg, text)
	if !right {
		return false
	}
	found := scan(text, base)
	if found.begun {
		*h = found
		return true
	}
	if h.begun && base == h.next {
		h.records = append(h.records, found.records...)
		h.next = found.next
	}
	return false
}

// lay puts parts behind one another, in memory of their own.
func lay(parts ...[]byte) []byte {
	size := 0
	for _, part := range parts {
		size += len(part)
	}
	all := make([]byte, 0, size)
	for _, part := range parts {
		all = append(all, part...)
	}
	return all
}

// write puts a number into all of b, its lowest byte first.
func write(b []byte, n int) {
	for i := range b {
		b[i] = byte(n >> (8 * i))
	}
}

// read is the number in all of b. Eight bytes may tell more than an int
// holds: that comes out below 0, which no base is.
func read(b []byte) int {
	n := 0
	for i, x := range b {
		n |= int(x) << (8 * i)
	}
	return n
}
