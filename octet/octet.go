// Package octet puts numbers, single bytes and texts into bytes, and reads them back: see DOC.md, chapter 1.
package octet

import "padlock/api"

const (
	numSize  = 8
	numLimit = 1 << 62 // the least number that is too great
	mostByte = 255
	mostText = 255 // one byte holds the length of a text
)

// PutNum returns v as eight bytes, the most significant one first.
func PutNum(v int) ([]byte, api.Errno) {
	if v < 0 || v >= numLimit {
		return nil, api.ErrArg
	}
	b := make([]byte, numSize)
	for i := numSize - 1; i >= 0; i-- {
		b[i] = byte(v)
		v >>= 8
	}
	return b, api.OK
}

// Num reads what PutNum put at index at, and tells the index behind it.
func Num(b []byte, at int) (v, next int, code api.Errno) {
	defer func() {
		if cause := recover(); cause != nil {
			code = codeOf(cause)
		}
	}()
	v, next = readNum(b, at)
	return v, next, api.OK
}

// PutByte returns v as one byte.
func PutByte(v int) ([]byte, api.Errno) {
	if v < 0 || v > mostByte {
		return nil, api.ErrArg
	}
	return []byte{byte(v)}, api.OK
}

// Byte reads what PutByte put at index at, and tells the index behind it.
func Byte(b []byte, at int) (v, next int, code api.Errno) {
	defer func() {
		if cause := recover(); cause != nil {
			code = codeOf(cause)
		}
	}()
	v, next = readByte(b, at)
	return v, next, api.OK
}

// PutText returns the length of s as one byte, and s behind it.
func PutText(s string) ([]byte, api.Errno) {
	if len(s) > mostText {
		return nil, api.ErrLong
	}
	b := make([]byte, 0, 1+len(s))
	b = append(b, byte(len(s)))
	return append(b, s...), api.OK
}

// Text reads what PutText put at index at, if it has at most so many bytes, and tells the index behind it.
func Text(b []byte, at, most int) (s string, next int, code api.Errno) {
	defer func() {
		if cause := recover(); cause != nil {
			code = codeOf(cause)
		}
	}()
	s, next = readText(b, at, most)
	return s, next, api.OK
}

// End checks that b ends at index at.
func End(b []byte, at int) (code api.Errno) {
	defer func() {
		if cause := recover(); cause != nil {
			code = codeOf(cause)
		}
	}()
	readEnd(b, at)
	return api.OK
}
