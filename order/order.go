// Package order is layer 2: keys, whose bytes stand in the order of their values.
package order

import (
	"countinghouse/api"
	"countinghouse/value"
)

// The bytes with which values begin: they rise as the kinds do.
const (
	nothingMark = 0x01
	numberMark  = 0x02
	textMark    = 0x03
)

// The bytes behind a 00 in a text: that it ends, or that the 00 is its own. The end is the lesser one, so that a text stands ahead of those that it begins.
const (
	textEnd  = 0x01
	textZero = 0xff
)

const (
	// With its sign turned, a number below 0 stands ahead of those that aren't.
	signBit = 0x80
	// numberSize is how many bytes a number has behind its mark.
	numberSize = 8
)

// Key: of values.
func Key(l []api.Value) []byte {
	var p []byte
	for _, v := range l {
		switch v.Kind {
		case api.Null:
			p = append(p, nothingMark)
		case api.Int:
			p = appendNumber(p, v)
		case api.Text:
			p = appendText(p, v.S)
		}
	}
	return p
}

// Back: the values of a key.
func Back(p []byte) ([]api.Value, api.Errno) {
	var l []api.Value
	for len(p) > 0 {
		v, rest, ok := backOne(p[0], p[1:])
		if !ok {
			return nil, api.ErrForm
		}
		l = append(l, v)
		p = rest
	}
	return l, api.OK
}

func appendNumber(p []byte, v api.Value) []byte {
	b := value.Encode(v)
	b[0] = numberMark
	b[1] ^= signBit
	return append(p, b...)
}

func appendText(p []byte, s string) []byte {
	p = append(p, textMark)
	for i := range len(s) {
		p = append(p, s[i])
		if s[i] == 0 {
			p = append(p, textZero)
		}
	}
	return append(p, 0, textEnd)
}

// backOne reads what stands behind a mark; the rest that it answers is a piece of p.
func backOne(mark byte, p []byte) (api.Value, []byte, bool) {
	switch mark {
	case nothingMark:
		return api.Value{}, p, true
	case numberMark:
		return backNumber(p)
	case textMark:
		return backText(p)
	}
	return api.Value{}, nil, false
}

func backNumber(p []byte) (api.Value, []byte, bool) {
	if len(p) < numberSize {
		return api.Value{}, nil, false
	}
	b := append([]byte{api.Int}, p[:numberSize]...)
	b[1] ^= signBit
	v, _, e := value.Decode(b)
	return v, p[numberSize:], e == api.OK
}

func backText(p []byte) (api.Value, []byte, bool) {
	var s []byte
	// Where a single byte is left, the text's end can't be any more.
	for i := 0; i+1 < len(p); i++ {
		if p[i] != 0 {
			s = append(s, p[i])
			continue
		}
		switch p[i+1] {
		case textZero:
			s = append(s, 0)
			i++
		case textEnd:
			v := api.Value{Kind: api.Text, S: string(s)}
			return v, p[i+2:], value.Right(v)
		default:
			return api.Value{}, nil, false
		}
	}
	return api.Value{}, nil, false
}
