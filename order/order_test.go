package order

import (
	"bytes"
	"math"
	"slices"
	"strings"
	"testing"

	"countinghouse/api"
	"countinghouse/value"
)

func num(n int64) api.Value   { return api.Value{Kind: api.Int, N: n} }
func text(s string) api.Value { return api.Value{Kind: api.Text, S: s} }

// some: values that are Right, of bytes among which an order goes wrong first.
func some() []api.Value {
	return []api.Value{
		{},
		num(math.MinInt64), num(-256), num(-1), num(0), num(1), num(255), num(math.MaxInt64),
		text(""), text("\x00"), text("\x00\x00"), text("\x00\x01"), text("\x00\xff"), text("\x01"), text("\x02"), text("\x03"),
		text("a"), text("a\x00"), text("a\x00\x01"), text("a\x01"), text("ab"), text("\xff"), text("\xff\x00"), text("\xff\xff"),
	}
}

// lists: all lists of at most two of these values, and some longer ones.
func lists() [][]api.Value {
	out := [][]api.Value{nil}
	for _, a := range some() {
		out = append(out, []api.Value{a})
		for _, b := range some() {
			out = append(out, []api.Value{a, b})
		}
	}
	return append(out, some(), some()[:8], []api.Value{{}, {}, {}}, []api.Value{text("a"), text(""), text("")})
}

// P2.1: Key.
func TestKey(t *testing.T) {
	for _, c := range []struct {
		l    []api.Value
		want string
	}{
		{nil, ""},
		{[]api.Value{{}}, "\x01"},
		{[]api.Value{{}, {}}, "\x01\x01"},
		{[]api.Value{num(0)}, "\x02\x80\x00\x00\x00\x00\x00\x00\x00"},
		{[]api.Value{num(0x0102030405060708)}, "\x02\x81\x02\x03\x04\x05\x06\x07\x08"},
		{[]api.Value{num(-1)}, "\x02\x7f\xff\xff\xff\xff\xff\xff\xff"},
		{[]api.Value{num(math.MinInt64)}, "\x02\x00\x00\x00\x00\x00\x00\x00\x00"},
		{[]api.Value{num(math.MaxInt64)}, "\x02\xff\xff\xff\xff\xff\xff\xff\xff"},
		{[]api.Value{text("")}, "\x03\x00\x01"},
		{[]api.Value{text("\x00")}, "\x03\x00\xff\x00\x01"},
		{[]api.Value{text("a\x00\x00b\xff")}, "\x03a\x00\xff\x00\xffb\xff\x00\x01"},
		{[]api.Value{text("\x01")}, "\x03\x01\x00\x01"},
		{[]api.Value{text("a"), {}, num(1), text("b")}, "\x03a\x00\x01\x01\x02\x80\x00\x00\x00\x00\x00\x00\x01\x03b\x00\x01"},
	} {
		if got := Key(c.l); string(got) != c.want {
			t.Errorf("Key(%+v): %x, not %x", c.l, got, c.want)
		}
	}
}

// P2.1: Back tells the values of which bytes are the Key.
func TestBackOfKey(t *testing.T) {
	longest := []api.Value{text(strings.Repeat("\x00", api.MaxText)), text(strings.Repeat("a", api.MaxText)), num(5)}
	for _, l := range append(lists(), longest) {
		got, e := Back(Key(l))
		if !slices.Equal(got, l) || e != api.OK {
			t.Errorf("Back of the Key of %+v: %+v, %d", l, got, e)
		}
	}
}

func wantForm(t *testing.T, p []byte) {
	t.Helper()
	if l, e := Back(p); len(l) != 0 || e != api.ErrForm {
		t.Errorf("Back(%x): %+v, %d: not ErrForm", p, l, e)
	}
}

// P2.1: bytes that are no Key, alone, and behind a value.
func TestBackForm(t *testing.T) {
	for _, s := range []string{
		"\x00", "\x04", "\xff", "\x00\x01",
		"\x02", "\x02\x80\x00\x00\x00\x00\x00\x00",
		"\x03", "\x03\x00", "\x03\x01", "\x03a", "\x03a\x00", "\x03a\x00\xff", "\x03a\x00\xff\x01", "\x03a\x00\xff\x00",
		"\x03\x00\x00", "\x03\x00\x00\x01", "\x03\x00\x02", "\x03\x00\xfe\x00\x01", "\x03a\x00a\x00\x01",
		"\x03a\x00\x01\x00", "\x03a\x00\x01\x04",
		"\x03" + strings.Repeat("a", api.MaxText+1) + "\x00\x01",
		"\x03" + strings.Repeat("\x00\xff", api.MaxText+1) + "\x00\x01",
		"\x03" + strings.Repeat("a", 1<<16) + "\x00\x01",
	} {
		wantForm(t, []byte(s))
		wantForm(t, append(Key(some()), s...))
	}
}

// P2.1: what ends within its last value is no Key.
func TestBackOfCutKeys(t *testing.T) {
	for _, v := range some() {
		p := Key([]api.Value{v})
		for n := 1; n < len(p); n++ {
			wantForm(t, p[:n])
		}
	}
}

// P2.1: of short bytes, all of them: what Back allows is the Key of what it tells.
func TestBackAllowsKeysAlone(t *testing.T) {
	signs := []byte{0, 1, 2, 3, 4, 'a', 0xff}
	var all func(p []byte, left int)
	all = func(p []byte, left int) {
		l, e := Back(p)
		if e == api.OK && !bytes.Equal(Key(l), p) || e != api.OK && (e != api.ErrForm || len(l) != 0) {
			t.Errorf("Back(%x): %+v, %d", p, l, e)
		}
		if left == 0 {
			return
		}
		for _, b := range signs {
			all(append(bytes.Clone(p), b), left-1)
		}
	}
	all(nil, 5)
	all([]byte("\x02\x80\x00\x00\x00\x00\x00"), 4)
}

// compareLists: by the first value that is another one, or by being the beginning.
func compareLists(a, b []api.Value) int {
	return slices.CompareFunc(a, b, value.Compare)
}

// P2.2: Keys stand as their values do.
func TestKeysStandAsValues(t *testing.T) {
	all := lists()
	for _, a := range all {
		for _, b := range all {
			if got, want := bytes.Compare(Key(a), Key(b)), compareLists(a, b); got != want {
				t.Fatalf("Keys of %+v and %+v: %d, not %d", a, b, got, want)
			}
		}
	}
}

// Nothing is shared: neither call writes into what it was handed, or keeps it.
func TestSharesNothing(t *testing.T) {
	l := some()
	p := Key(l)
	if !slices.Equal(l, some()) {
		t.Error("Key wrote into its values")
	}
	before := bytes.Clone(p)
	got, _ := Back(p)
	if !bytes.Equal(p, before) {
		t.Error("Back wrote into its bytes")
	}
	clear(p)
	if !slices.Equal(got, some()) {
		t.Error("what Back told hangs on what it was handed")
	}
	clear(l)
	if !bytes.Equal(Key(some()), before) {
		t.Error("Key is another one the second time")
	}
}

// P1: no call panics, of values that aren't Right, or of any bytes.
func TestNoPanic(t *testing.T) {
	Key([]api.Value{{N: 1, S: "a"}, {Kind: api.Int, S: "a"}, {Kind: api.Text, N: 1}, {Kind: 3}, {Kind: 255, S: "\x00"}, text(strings.Repeat("\x00", 1<<16))})
	for a := range 256 {
		for b := range 256 {
			Back([]byte{byte(a), byte(b)})
			Back([]byte{textMark, 'a', byte(a), byte(b)})
			Back([]byte{numberMark, 0, 0, 0, 0, 0, 0, byte(a), byte(b)})
		}
	}
}
