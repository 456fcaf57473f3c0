// Package wire is what the layers that tell payloads have in common: numbers (chapter 2) and texts (chapter 7) one behind
// another, and a reader of them that gives up by a panic of its own.
package wire

import (
	"turncock/api"
	"turncock/varint"
)

// PutNumber appends n's bytes to b, which is the caller's own: its spare room is used. n is 0 or more.
func PutNumber(b []byte, n int) []byte {
	return append(b, varint.Put(nil, uint64(n))...)
}

// PutText appends a text's bytes to b, which is the caller's own: its spare room is used.
func PutText(b []byte, s string) []byte {
	return append(PutNumber(b, len(s)), s...)
}

// Reader takes what a payload is made of off its front. Whatever is not as it should be makes it give up.
type Reader struct{ rest []byte }

// giveUp is what a reader panics with, so that no other panic is taken for one of a reader.
type giveUp struct{}

// NewReader reads b.
func NewReader(b []byte) *Reader {
	return &Reader{rest: b}
}

// GaveUp says of what recover answers whether a reader gave up. A panic that is no reader's goes on.
func GaveUp(why any) bool {
	switch why.(type) {
	case nil:
		return false
	case giveUp:
		return true
	}
	panic(why)
}

// Must gives up, unless ok.
func (r *Reader) Must(ok bool) {
	if !ok {
		panic(giveUp{})
	}
}

// First takes a payload's first byte, which must be that one.
func (r *Reader) First(kind byte) {
	r.Must(len(r.rest) > 0 && r.rest[0] == kind)
	r.rest = r.rest[1:]
}

// Number takes a number, which must be at most most.
func (r *Reader) Number(most int) int {
	v, size, code := varint.Get(r.rest)
	// Asked of the number as it came, since not every one of them is an int.
	r.Must(code == api.OK && v <= uint64(most))
	r.rest = r.rest[size:]
	return int(v)
}

// Text takes a text, which must have at most most bytes.
func (r *Reader) Text(most int) string {
	size := r.Number(most)
	r.Must(size <= len(r.rest))
	s := string(r.rest[:size])
	r.rest = r.rest[size:]
	return s
}

// End must stand behind the last byte.
func (r *Reader) End() {
	r.Must(len(r.rest) == 0)
}
