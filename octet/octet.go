// Package octet is layer 1: numbers as bytes, in one form: see shared/doc/01-octet.md.
package octet

import (
	"bytes"

	"wicket/api"
)

// Put tells a number as so many bytes, the lowest first.
func Put(n uint64, size int) ([]byte, api.Errno) {
	if !isSize(size) {
		return nil, api.ErrInput
	}
	// A shift by 64 bits leaves 0: so size 8 holds each number without a case of its own.
	if n>>(8*size) != 0 {
		return nil, api.ErrWide
	}
	b := make([]byte, size)
	for i := range b {
		b[i] = byte(n >> (8 * i))
	}
	return b, api.OK
}

// Take tells the number that bytes begin with, and the bytes behind it.
func Take(b []byte, size int) (n uint64, rest []byte, e api.Errno) {
	if !isSize(size) {
		return 0, nil, api.ErrInput
	}
	if len(b) < size {
		return 0, nil, api.ErrShort
	}
	return number(b[:size]), bytes.Clone(b[size:]), api.OK
}

// Fields tells numbers, one behind the other, and the bytes behind them.
func Fields(b []byte, sizes ...int) (ns []uint64, rest []byte, e api.Errno) {
	// A wrong size is told ahead of bytes that are too few, so all sizes are looked at first.
	total := 0
	for _, size := range sizes {
		if !isSize(size) {
			return nil, nil, api.ErrInput
		}
		total += size
	}
	if len(b) < total {
		return nil, nil, api.ErrShort
	}
	// Not by Take, which would copy the rest anew for each number.
	ns = make([]uint64, len(sizes))
	at := 0
	for i, size := range sizes {
		ns[i] = number(b[at : at+size])
		at += size
	}
	return ns, bytes.Clone(b[at:]), api.OK
}

// Join tells parts, one behind the other.
func Join(parts ...[]byte) []byte {
	total := 0
	for _, part := range parts {
		total += len(part)
	}
	all := make([]byte, 0, total)
	for _, part := range parts {
		all = append(all, part...)
	}
	return all
}

// Pad tells bytes with zeros behind them.
func Pad(b []byte, size int) ([]byte, api.Errno) {
	if size < 0 || size > api.Size {
		return nil, api.ErrInput
	}
	if len(b) > size {
		return nil, api.ErrWide
	}
	padded := make([]byte, size)
	copy(padded, b)
	return padded, api.OK
}

// Blank tells whether all bytes are 0.
func Blank(b []byte) bool {
	for _, x := range b {
		if x != 0 {
			return false
		}
	}
	return true
}

// isSize tells whether a number may have so many bytes: none has more than the 8 of 64 bits.
func isSize(size int) bool {
	return size >= 1 && size <= 8
}

// number tells the number of at most 8 bytes, the lowest first.
func number(b []byte) uint64 {
	n := uint64(0)
	for i, x := range b {
		n |= uint64(x) << (8 * i)
	}
	return n
}
