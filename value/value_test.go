package value

import (
	"bytes"
	"math"
	"strings"
	"testing"

	"countinghouse/api"
)

func num(n int64) api.Value   { return api.Value{Kind: api.Int, N: n} }
func text(s string) api.Value { return api.Value{Kind: api.Text, S: s} }

// rising: values that are Right, each ahead of the next one.
func rising() []api.Value {
	return []api.Value{
		{},
		num(math.MinInt64), num(math.MinInt64 + 1), num(-256), num(-1), num(0), num(1), num(255), num(256), num(math.MaxInt64 - 1), num(math.MaxInt64),
		text(""), text("\x00"), text("\x00\x00"), text("\x00\x01"), text("\x01"), text("A"), text("a"), text("a\x00"), text("aa"), text("ab"), text("b"),
		text("\x7f"), text("\x80"), text("\xff"), text("\xff\x00"), text(strings.Repeat("\xff", api.MaxText-1)), text(strings.Repeat("\xff", api.MaxText)),
	}
}

// wrong: values that aren't Right.
func wrong() []api.Value {
	return []api.Value{
		{N: 1}, {N: -1}, {S: "a"}, {S: "\x00"}, {N: 1, S: "a"},
		{Kind: api.Int, S: "a"}, {Kind: api.Int, N: 7, S: "\x00"},
		{Kind: api.Text, N: 1}, {Kind: api.Text, N: -1, S: "a"},
		text(strings.Repeat("a", api.MaxText+1)), text(strings.Repeat("a", 1<<16)),
		{Kind: 3}, {Kind: 4, N: 1}, {Kind: 128}, {Kind: 255, S: "a"},
	}
}

// P1.1: Right.
func TestRight(t *testing.T) {
	for _, v := range rising() {
		if !Right(v) {
			t.Errorf("%+v isn't Right", v)
		}
	}
	for _, v := range wrong() {
		if Right(v) {
			t.Errorf("%+v is Right", v)
		}
	}
	for kind := 3; kind < 256; kind++ {
		if Right(api.Value{Kind: byte(kind)}) {
			t.Errorf("kind %d is Right", kind)
		}
	}
}

// P1.1: Same is by fields, of values that aren't Right, too.
func TestSame(t *testing.T) {
	l := append(rising(), wrong()...)
	for i, a := range l {
		for k, b := range l {
			if Same(a, b) != (i == k) {
				t.Errorf("Same(%+v, %+v) is %v", a, b, Same(a, b))
			}
		}
	}
	apart := text(string([]byte("ab")))
	if !Same(apart, text("ab")) {
		t.Error("texts of like bytes aren't the Same")
	}
}

// P1.1: Compare.
func TestCompare(t *testing.T) {
	l := rising()
	for i, a := range l {
		for k, b := range l {
			want := 0
			switch {
			case i < k:
				want = -1
			case i > k:
				want = 1
			}
			if got := Compare(a, b); got != want {
				t.Errorf("Compare(%+v, %+v): %d, not %d", a, b, got, want)
			}
		}
	}
}

// P1.2: Encode.
func TestEncode(t *testing.T) {
	long := strings.Repeat("x", api.MaxText)
	for _, c := range []struct {
		v    api.Value
		want string
	}{
		{api.Value{}, "\x00"},
		{num(0), "\x01\x00\x00\x00\x00\x00\x00\x00\x00"},
		{num(0x0102030405060708), "\x01\x01\x02\x03\x04\x05\x06\x07\x08"},
		{num(-2), "\x01\xff\xff\xff\xff\xff\xff\xff\xfe"},
		{num(math.MaxInt64), "\x01\x7f\xff\xff\xff\xff\xff\xff\xff"},
		{num(math.MinInt64), "\x01\x80\x00\x00\x00\x00\x00\x00\x00"},
		{text(""), "\x02\x00\x00"},
		{text("ab"), "\x02\x00\x02ab"},
		{text("\x00\xff"), "\x02\x00\x02\x00\xff"},
		{text(long), "\x02\x00\xc8" + long},
	} {
		if got := Encode(c.v); string(got) != c.want {
			t.Errorf("Encode(%+v): %x, not %x", c.v, got, c.want)
		}
	}
}

// P1.2: Decode tells what Encode wrote, and what stands behind it.
func TestDecodeOfEncode(t *testing.T) {
	for _, v := range rising() {
		for _, behind := range []string{"", "\x00", "\x02", "\x03", "xyz", strings.Repeat("\xff", 300)} {
			got, rest, e := Decode(append(Encode(v), behind...))
			if got != v || string(rest) != behind || e != api.OK {
				t.Errorf("%+v with %x behind: %+v, %x, %d", v, behind, got, rest, e)
			}
		}
	}
}

// P1.2: Decode of all the values of a row, one behind the other.
func TestDecodeOneBehindTheOther(t *testing.T) {
	var p []byte
	for _, v := range rising() {
		p = append(p, Encode(v)...)
	}
	for _, want := range rising() {
		v, rest, e := Decode(p)
		if v != want || e != api.OK {
			t.Fatalf("%+v, %d: not %+v", v, e, want)
		}
		p = rest
	}
	if len(p) != 0 {
		t.Errorf("%x is left", p)
	}
}

func wantError(t *testing.T, p []byte, want api.Errno) {
	t.Helper()
	v, rest, e := Decode(p)
	if v != (api.Value{}) || len(rest) != 0 || e != want {
		t.Errorf("Decode(%x): %+v, %x, %d: not error %d", p, v, rest, e, want)
	}
}

// P1.2: bytes that end too soon, at each place.
func TestDecodeShort(t *testing.T) {
	wantError(t, nil, api.ErrShort)
	wantError(t, []byte{}, api.ErrShort)
	for _, v := range rising() {
		p := Encode(v)
		for n := range len(p) {
			wantError(t, p[:n], api.ErrShort)
		}
	}
}

// P1.2: what is no kind, and texts that are too long, whether all of their bytes are there or not.
func TestDecodeForm(t *testing.T) {
	for kind := 3; kind < 256; kind++ {
		wantError(t, []byte{byte(kind)}, api.ErrForm)
		wantError(t, append([]byte{byte(kind)}, make([]byte, 20)...), api.ErrForm)
	}
	for _, n := range []int{api.MaxText + 1, 255, 256, 257, 1<<16 - 1} {
		head := []byte{api.Text, byte(n >> 8), byte(n)}
		wantError(t, head, api.ErrForm)
		wantError(t, append(head, make([]byte, n)...), api.ErrForm)
	}
}

// Nothing is shared: Decode leaves p as it is, and neither p nor the rest writes into the other.
func TestDecodeSharesNothing(t *testing.T) {
	p := append(Encode(text("ab")), "xyz"...)
	before := bytes.Clone(p)
	v, rest, _ := Decode(p)
	rest[0] = '?'
	if !bytes.Equal(p, before) {
		t.Errorf("%x was written over: %x", before, p)
	}
	clear(p)
	if v != text("ab") || string(rest) != "?yz" {
		t.Errorf("%+v and %x hang on what was handed in", v, rest)
	}
}

// P1: no call panics, of values that aren't Right, or of any bytes.
func TestNoPanic(t *testing.T) {
	l := append(rising(), wrong()...)
	for _, a := range l {
		Encode(a)
		for _, b := range l {
			Compare(a, b)
		}
	}
	for a := range 256 {
		for b := range 256 {
			for _, behind := range []int{0, 1, 6, 7, 199, 200, 201} {
				p := append([]byte{byte(a), 0, byte(b)}, make([]byte, behind)...)
				v, rest, e := Decode(p)
				if e == api.OK && (!Right(v) || len(Encode(v))+len(rest) != len(p)) {
					t.Fatalf("Decode(%x): %+v, %x", p, v, rest)
				}
			}
		}
	}
}
