package octet

import "padlock/api"

// failure is what a reading that fails panics with. It is a type of this
// package's own, so that no other panic is taken for a reading's code.
type failure struct{ code api.Errno }

// codeOf tells the code of a panic that an exported function recovered.
func codeOf(cause any) api.Errno {
	if f, ok := cause.(failure); ok {
		return f.code
	}
	return api.ErrForm // R1: no call panics, not even by a fault of its own
}

func readNum(b []byte, at int) (int, int) {
	need(b, at, numSize)
	next := at + numSize
	var v uint64
	for _, x := range b[at:next] {
		v = v<<8 | uint64(x)
	}
	if v >= numLimit {
		panic(failure{api.ErrForm})
	}
	return int(v), next
}

func readByte(b []byte, at int) (int, int) {
	need(b, at, 1)
	return int(b[at]), at + 1
}

func readText(b []byte, at, most int) (string, int) {
	size, start := readByte(b, at)
	if size > most {
		panic(failure{api.ErrLong})
	}
	need(b, start, size)
	next := start + size
	return string(b[start:next]), next
}

func readEnd(b []byte, at int) {
	need(b, at, 0)
	if at < len(b) {
		panic(failure{api.ErrLong})
	}
}

// need fails if there are fewer than size bytes from index at on. It takes the
// difference, because the sum of at and size can be more than an int holds.
func need(b []byte, at, size int) {
	if at < 0 || len(b)-at < size {
		panic(failure{api.ErrShort})
	}
}
