// Package value is layer 1: values, and their bytes.
package value

import (
	"bytes"
	"cmp"

	"countinghouse/api"
)

const (
	numberSize = 8 // bytes of a number
	lengthSize = 2 // bytes of a text's length
)

// Right: is it a value?
func Right(v api.Value) bool {
	switch v.Kind {
	case api.Null:
		return Same(v, api.Value{})
	case api.Int:
		return v.S == ""
	case api.Text:
		return v.N == 0 && len(v.S) <= api.MaxText
	}
	return false
}

// Same: are two alike?
func Same(a, b api.Value) bool { return a == b }

// Compare: which stands ahead.
func Compare(a, b api.Value) int {
	// What a kind doesn't have is zero in both, so it decides nothing.
	return cmp.Or(cmp.Compare(a.Kind, b.Kind), cmp.Compare(a.N, b.N), cmp.Compare(a.S, b.S))
}

// Encode: its bytes.
func Encode(v api.Value) []byte {
	p := []byte{v.Kind}
	switch v.Kind {
	case api.Int:
		p = appendHigh(p, uint64(v.N), numberSize)
	case api.Text:
		p = appendHigh(p, uint64(len(v.S)), lengthSize)
		p = append(p, v.S...)
	}
	return p
}

// Decode: the first one, and what stands behind it.
func Decode(p []byte) (api.Value, []byte, api.Errno) {
	if len(p) == 0 {
		return api.Value{}, nil, api.ErrShort
	}
	v, rest, e := decodeKind(p[0], p[1:])
	if e != api.OK {
		return api.Value{}, nil, e
	}
	// The caller may write over p, or over the rest.
	return v, bytes.Clone(rest), api.OK
}

// decodeKind reads what stands behind the byte of a kind; the rest that it answers is a piece of p.
func decodeKind(kind byte, p []byte) (api.Value, []byte, api.Errno) {
	switch kind {
	case api.Null:
		return api.Value{}, p, api.OK
	case api.Int:
		return decodeNumber(p)
	case api.Text:
		return decodeText(p)
	}
	return api.Value{}, nil, api.ErrForm
}

func decodeNumber(p []byte) (api.Value, []byte, api.Errno) {
	if len(p) < numberSize {
		return api.Value{}, nil, api.ErrShort
	}
	n := int64(readHigh(p[:numberSize]))
	return api.Value{Kind: api.Int, N: n}, p[numberSize:], api.OK
}

func decodeText(p []byte) (api.Value, []byte, api.Errno) {
	if len(p) < lengthSize {
		return api.Value{}, nil, api.ErrShort
	}
	n := int(readHigh(p[:lengthSize]))
	p = p[lengthSize:]
	// A length that may not be is told whether its bytes are there or not.
	if n > api.MaxText {
		return api.Value{}, nil, api.ErrForm
	}
	if len(p) < n {
		return api.Value{}, nil, api.ErrShort
	}
	return api.Value{Kind: api.Text, S: string(p[:n])}, p[n:], api.OK
}

// appendHigh writes the lowest size bytes of n behind p, the highest of them first.
func appendHigh(p []byte, n uint64, size int) []byte {
	for i := size - 1; i >= 0; i-- {
		p = append(p, byte(n>>(8*i)))
	}
	return p
}

// readHigh reads all bytes of p as one number, the highest first.
func readHigh(p []byte) uint64 {
	var n uint64
	for _, b := range p {
		n = n<<8 | uint64(b)
	}
	return n
}
