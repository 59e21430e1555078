// Package octet encodes integers, strings and integer slices as varints, and decodes them again.
package octet

import (
	"iter"

	"chalkline/api"
)

// maxBytes is the number of bytes of the longest encoding of an integer.
const maxBytes = 10

// PutInt appends the encoding of n to a copy of b.
func PutInt(b []byte, n int) []byte {
	return appendInt(room(b, maxBytes), n)
}

// GetInt decodes the integer at offset at and returns it with the offset just after it.
func GetInt(b []byte, at int) (n, next int, e api.Errno) {
	if at < 0 || at > len(b) {
		return 0, 0, api.ErrArg
	}
	var u uint64
	for i := range maxBytes {
		if at+i >= len(b) {
			return 0, 0, api.ErrShort
		}
		c := b[at+i]
		if i == maxBytes-1 && c > 1 {
			return 0, 0, api.ErrForm
		}
		u |= uint64(c&127) << (7 * i)
		if c >= 128 {
			continue
		}
		if c == 0 && i > 0 {
			return 0, 0, api.ErrForm
		}
		return unzigzag(u), at + i + 1, api.OK
	}
	return 0, 0, api.ErrForm
}

// PutText appends the encoding of s to a copy of b.
func PutText(b []byte, s string) []byte {
	return append(appendInt(room(b, maxBytes+len(s)), len(s)), s...)
}

// GetText decodes the string at offset at, which may have at most most bytes.
func GetText(b []byte, at, most int) (s string, next int, e api.Errno) {
	return getMany(b, at, most, func(n, next int) (string, int, api.Errno) {
		if n > len(b)-next {
			return "", 0, api.ErrShort
		}
		return string(b[next : next+n]), next + n, api.OK
	})
}

// PutInts appends the encoding of l to a copy of b.
func PutInts(b []byte, l []int) []byte {
	out := appendInt(room(b, maxBytes+len(l)), len(l))
	for _, n := range l {
		out = appendInt(out, n)
	}
	return out
}

// GetInts decodes the slice at offset at, which may have at most most elements.
func GetInts(b []byte, at, most int) (l []int, next int, e api.Errno) {
	return getMany(b, at, most, func(n, next int) ([]int, int, api.Errno) {
		// The length is not to be trusted before the elements are read: it grows with them.
		var l []int
		for range n {
			x, after, e := GetInt(b, next)
			if e != api.OK {
				return nil, 0, e
			}
			l, next = append(l, x), after
		}
		return l, next, api.OK
	})
}

// getMany decodes a length of at most most, and then, by read, that many parts of a value.
func getMany[T any](b []byte, at, most int, read func(n, next int) (T, int, api.Errno)) (T, int, api.Errno) {
	var none T
	n, next, e := GetInt(b, at)
	switch {
	case e != api.OK:
		return none, 0, e
	case n < 0:
		return none, 0, api.ErrForm
	case n > most:
		return none, 0, api.ErrBound
	}
	return read(n, next)
}

// room returns a copy of b with room for more bytes, so that what is appended never lands in the memory of b.
func room(b []byte, more int) []byte {
	return append(make([]byte, 0, len(b)+more), b...)
}

// appendInt appends the encoding of n to b itself.
func appendInt(b []byte, n int) []byte {
	for c := range groups(zigzag(n)) {
		b = append(b, c)
	}
	return b
}

// groups yields the groups of seven bits of u, the least significant first, all but the last with the high bit set.
func groups(u uint64) iter.Seq[byte] {
	return func(yield func(byte) bool) {
		for ; u >= 128; u >>= 7 {
			if !yield(byte(u) | 128) {
				return
			}
		}
		yield(byte(u))
	}
}

// zigzag maps 0, -1, 1, -2, 2 .. to 0, 1, 2, 3, 4 ..
func zigzag(n int) uint64 {
	return uint64(n)<<1 ^ uint64(n>>63)
}

// unzigzag is the inverse of zigzag.
func unzigzag(u uint64) int {
	return int(u>>1) ^ -int(u&1)
}
