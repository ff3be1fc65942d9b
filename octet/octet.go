// Package octet is layer 1: numbers and texts: see shared/doc/01-octet.md.
package octet

import (
	"bytes"
	"iter"
	"math"

	"banksman/api"
)

const (
	maxNumber = math.MaxInt32 // the greatest number that has bytes
	maxText   = 65535         // how many bytes a text has at most
	maxSize   = 5             // how many bytes maxNumber takes
	base      = 128           // a byte below it is a number's last one
)

// Number is b, and behind it a number, in as many bytes as it takes.
func Number(b []byte, n int) ([]byte, api.Errno) {
	if !has(n) {
		return nil, api.ErrOctet
	}
	return put(b, n, nil), api.OK
}

// Take is the number that bytes begin with, and what is behind it.
func Take(b []byte) (int, []byte, api.Errno) {
	n, size := first(b)
	if size == 0 {
		return 0, nil, api.ErrOctet
	}
	return n, bytes.Clone(b[size:]), api.OK
}

// Text is b, and behind it how many bytes a text has, and the text.
func Text(b []byte, t []byte) ([]byte, api.Errno) {
	if len(t) > maxText {
		return nil, api.ErrOctet
	}
	return put(b, len(t), t), api.OK
}

// TakeText is the text that bytes begin with, and what is behind it.
func TakeText(b []byte) ([]byte, []byte, api.Errno) {
	n, size := first(b)
	if size == 0 || n > maxText || n > len(b)-size {
		return nil, nil, api.ErrOctet
	}
	end := size + n
	// Each is a copy of its own: an append to the text would else reach the rest.
	return bytes.Clone(b[size:end]), bytes.Clone(b[end:]), api.OK
}

// Size is how many bytes a number takes.
func Size(n int) int {
	if !has(n) {
		return 0
	}
	size := 0
	for range pieces(n) {
		size++
	}
	return size
}

// has tells whether a number has bytes.
func has(n int) bool { return n >= 0 && n <= maxNumber }

// pieces are the bytes of a number that has some, the lowest first.
func pieces(n int) iter.Seq[byte] {
	return func(yield func(byte) bool) {
		rest := n
		for rest >= base {
			if !yield(byte(rest%base + base)) {
				return
			}
			rest /= base
		}
		yield(byte(rest))
	}
}

// put is new memory with b, the bytes of n, and t.
func put(b []byte, n int, t []byte) []byte {
	all := make([]byte, 0, len(b)+Size(n)+len(t))
	all = append(all, b...)
	for x := range pieces(n) {
		all = append(all, x)
	}
	return append(all, t...)
}

// first is the number that b begins with, and how many bytes it takes: 0 without one.
func first(b []byte) (int, int) {
	var n uint64 // maxSize bytes may tell more than an int of 32 bits holds
	size := 0
next:
	if size == len(b) || size == maxSize {
		return 0, 0
	}
	x := b[size]
	n += uint64(x%base) << (7 * size)
	size++
	if x >= base {
		goto next
	}
	if n > maxNumber || x == 0 && size > 1 {
		return 0, 0
	}
	return int(n), size
}
