// Package num is layer 1: numbers and texts as bytes, the lowest byte first. See shared/doc/01-num.md.
package num

import (
	"comptor/api"
)

const (
	widest  = 8               // bytes of the widest number
	lead    = 2               // bytes ahead of a text that say how long it is
	longest = 1<<(8*lead) - 1 // bytes of the longest text
)

// Put: b and behind it n in size bytes.
func Put(b []byte, n uint64, size int) ([]byte, api.Errno) {
	if !isSize(size) || n>>(8*size) != 0 {
		return nil, api.ErrArg
	}
	return lay(b, n, size), api.OK
}

// Take: the number of the size bytes of b from the place at on.
func Take(b []byte, at int, size int) (uint64, api.Errno) {
	if !isSize(size) || at < 0 {
		return 0, api.ErrArg
	}
	if lacks(b, at, size) {
		return 0, api.ErrShort
	}
	var word [widest]byte
	copy(word[:], b[at:at+size])
	var n uint64
	for i, c := range word {
		n |= uint64(c) << (8 * i)
	}
	return n, api.OK
}

// PutText: b and behind it how many bytes s has, and s.
func PutText(b []byte, s string) ([]byte, api.Errno) {
	if len(s) > longest {
		return nil, api.ErrLong
	}
	return append(lay(b, uint64(len(s)), lead), s...), api.OK
}

// TakeText: the text that stands at the place at, and the place behind it.
func TakeText(b []byte, at int, most int) (string, int, api.Errno) {
	n, e := Take(b, at, lead)
	if e != api.OK {
		return "", 0, e
	}
	size, from := int(n), at+lead
	if size > most {
		return "", 0, api.ErrLong
	}
	if lacks(b, from, size) {
		return "", 0, api.ErrShort
	}
	return string(b[from : from+size]), from + size, api.OK
}

// lay: new memory with b and behind it the size lowest bytes of n.
func lay(b []byte, n uint64, size int) []byte {
	var word [widest]byte
	for i := range word {
		word[i] = byte(n >> (8 * i))
	}
	// Not append: the spare room behind b isn't ours to write to.
	answer := make([]byte, len(b)+size)
	copy(answer, b)
	copy(answer[len(b):], word[:size])
	return answer
}

// isSize: can a number have so many bytes?
func isSize(size int) bool {
	return size >= 1 && size <= widest
}

// lacks: are there fewer than size bytes of b from the place at on?
func lacks(b []byte, at int, size int) bool {
	// By subtraction, since at and size together may be too great for an int.
	return at > len(b)-size
}
