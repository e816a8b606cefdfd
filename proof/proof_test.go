package proof

import (
	"bytes"
	"crypto/sha256"
	"encoding/binary"
	"fmt"
	"maps"
	"slices"
	"strings"
	"testing"

	"countinghouse/api"
	"countinghouse/trie"
)

// model is keys and their rows, from which the tests work out by themselves what a proof should tell.
type model map[string]string

// sum: by the library, so that nothing here hangs on package sha or mark.
func sum(p string) string {
	d := sha256.Sum256([]byte(p))
	return string(d[:])
}

// bit is the i-th of a key's sum, the highest of its first byte being the 0th.
func bit(key string, i int) byte { return sum(key)[i/8] >> (7 - i%8) & 1 }

// part is the keys whose i-th bit is b.
func (m model) part(i int, b byte) model {
	half := model{}
	for key, row := range m {
		if bit(key, i) == b {
			half[key] = row
		}
	}
	return half
}

func (m model) keys() []string { return slices.Sorted(maps.Keys(m)) }

func leafSum(key, row string) string {
	return sum(string(binary.BigEndian.AppendUint32([]byte{1}, uint32(len(key)))) + key + row)
}

// digest is that of the tree of these keys, at a depth.
func (m model) digest(depth int) string {
	switch len(m) {
	case 0:
		return sum("\x00")
	case 1:
		key := m.keys()[0]
		return leafSum(key, m[key])
	}
	return sum("\x02" + m.part(depth, 0).digest(depth+1) + m.part(depth, 1).digest(depth+1))
}

// proof is what the chapter says of a key, of the tree of these keys.
func (m model) proof(key string) Proof {
	var p Proof
	for depth := 0; len(m) > 1; depth++ {
		b := bit(key, depth)
		p.Side = append(p.Side, m.part(depth, 1-b).digest(depth+1))
		m = m.part(depth, b)
	}
	for found, row := range m {
		if found == key {
			return Proof{Side: p.Side, Kind: 1, Row: []byte(row)}
		}
		return Proof{Side: p.Side, Kind: 2, Key: found, Row: []byte(row)}
	}
	return p
}

func (m model) planted() *trie.Node {
	var n *trie.Node
	for key, row := range m {
		n = n.Put(key, []byte(row))
	}
	return n
}

// sets are all sets of a model's rows.
func (m model) sets() []model {
	l := []model{{}}
	for key, row := range m {
		for _, s := range slices.Clone(l) {
			c := maps.Clone(s)
			c[key] = row
			l = append(l, c)
		}
	}
	return l
}

// root is the digest to which a proof leads, up from its end.
func root(key string, p Proof) string {
	d := sum("\x00")
	switch p.Kind {
	case 1:
		d = leafSum(key, string(p.Row))
	case 2:
		d = leafSum(p.Key, string(p.Row))
	}
	for i := len(p.Side) - 1; i >= 0; i-- {
		if bit(key, i) == 0 {
			d = sum("\x02" + d + p.Side[i])
		} else {
			d = sum("\x02" + p.Side[i] + d)
		}
	}
	return d
}

// show: a proof, not too long to be read.
func show(p Proof) string {
	s := fmt.Sprintf("proof of kind %d, key %.20q (%d), row %.20q (%d), %d sides", p.Kind, p.Key, len(p.Key), p.Row, len(p.Row), len(p.Side))
	for _, d := range p.Side[:min(len(p.Side), 3)] {
		s += fmt.Sprintf(" %.4x", d)
	}
	return s
}

// alike, field by field, so that nothing of what is tested is asked of itself.
func alike(a, b Proof) bool {
	return strings.Join(a.Side, "|") == strings.Join(b.Side, "|") && len(a.Side) == len(b.Side) && a.Kind == b.Kind && a.Key == b.Key && string(a.Row) == string(b.Row)
}

// see holds what Build tells of a key against a model, and its bytes against Decode.
func see(t *testing.T, n *trie.Node, m model, key string) Proof {
	t.Helper()
	p, want := Build(n, key), m.proof(key)
	if !alike(p, want) {
		t.Errorf("Build of %.20q, of %d keys: %s: not %s", key, len(m), show(p), show(want))
	}
	if root(key, p) != n.Digest() {
		t.Errorf("Build of %.20q, of %d keys: leads to another digest: %s", key, len(m), show(p))
	}
	got, e := Decode(Encode(p))
	if e != api.OK || !alike(got, want) {
		t.Errorf("Decode of Encode: %s, %d: not %s", show(got), e, show(want))
	}
	return p
}

// alikeKeys are three: the sums of the first two begin with many bits that are the same, that of the third leaves them somewhere on the way.
func alikeKeys(t *testing.T) (string, string, string) {
	t.Helper()
	keys := make([]string, 1<<12)
	for i := range keys {
		keys[i] = fmt.Sprint("key ", i)
	}
	slices.SortFunc(keys, func(a, b string) int { return strings.Compare(sum(a), sum(b)) })
	best, most := 0, 0
	for i := range len(keys) - 2 {
		if n := sameBits(keys[i], keys[i+1]); n > most && sameBits(keys[i], keys[i+2]) < n {
			best, most = i, n
		}
	}
	if most < 20 || sameBits(keys[best], keys[best+2]) < 5 {
		t.Fatalf("only %d bits are the same", most)
	}
	return keys[best], keys[best+1], keys[best+2]
}

func sameBits(a, b string) int {
	n := 0
	for bit(a, n) == bit(b, n) {
		n++
	}
	return n
}

// P10.1: of each set of keys, and each key, there or not, what stands beside the way and at its end.
func TestBuildOfAllSets(t *testing.T) {
	a, b, c := alikeKeys(t)
	all := model{
		"": "of no bytes", "\x00": "", "a": "1", "ab": "1", "\xff\xfe": "not\xffUTF-8",
		"key": strings.Repeat("long ", 100), a: "one", b: "other", c: "third",
	}
	for _, m := range all.sets() {
		n := m.planted()
		for _, key := range append(all.keys(), "never", "z", strings.Repeat("k", 5000)) {
			p := see(t, n, m, key)
			row, ok := n.Get(key)
			if (p.Kind == Own) != ok || ok && string(p.Row) != string(row) {
				t.Errorf("Build of %.20q, of %d keys: %s: but Get is %.20q, %t", key, len(m), show(p), row, ok)
			}
		}
		if got := n.Digest(); got != m.digest(0) {
			t.Errorf("the tree of %q is another one: %x", m.keys(), got)
		}
	}
}

// P10.1: where two keys part late, the halves ahead of that are nil, and so are some ends.
func TestBuildOfLateParting(t *testing.T) {
	a, b, c := alikeKeys(t)
	m := model{a: "one", b: "other"}
	n := m.planted()
	empty := sum("\x00")
	p := see(t, n, m, a)
	if apart := sameBits(a, b); len(p.Side) != apart+1 || p.Side[apart] != leafSum(b, "other") || slices.IndexFunc(p.Side[:apart], func(d string) bool { return d != empty }) >= 0 {
		t.Errorf("of the one: %s", show(p))
	}
	apart := sameBits(a, c)
	p = see(t, n, m, c)
	if p.Kind != Nothing || p.Key != "" || len(p.Row) != 0 || len(p.Side) != apart+1 {
		t.Errorf("of one that leaves them: %s", show(p))
	}
	rest := m.digest(apart + 1)
	if p.Side[apart] != rest || slices.IndexFunc(p.Side[:apart], func(d string) bool { return d != empty }) >= 0 {
		t.Errorf("of one that leaves them: %s", show(p))
	}
}

// P10.1: of many keys, those that are there and as many that aren't; all three ends come up.
func TestBuildOfMany(t *testing.T) {
	m := model{}
	for i := range 300 {
		m[fmt.Sprint("key ", i)] = strings.Repeat("r", i%7) + fmt.Sprint(i)
	}
	n := m.planted()
	ends := map[byte]int{}
	for i := range 600 {
		ends[see(t, n, m, fmt.Sprint("key ", i)).Kind]++
	}
	if ends[Nothing] == 0 || ends[Own] != 300 || ends[Other] == 0 {
		t.Errorf("ends: %v", ends)
	}
}

// P10.1: by hand. The sums of a, b and c begin ca, 3e and 2e: c would stand beside b.
func TestBuildByHand(t *testing.T) {
	var none *trie.Node
	one := none.Put("a", []byte("1"))
	two := one.Put("b", []byte("2"))
	bare := none.Put("a", nil)
	leafA, leafB := leafSum("a", "1"), leafSum("b", "2")
	for _, c := range []struct {
		name, key string
		n         *trie.Node
		want      Proof
	}{
		{"nil", "a", none, Proof{}},
		{"nil", "", none, Proof{Kind: Nothing}},
		{"a", "a", one, Proof{Kind: Own, Row: []byte("1")}},
		{"a", "b", one, Proof{Kind: Other, Key: "a", Row: []byte("1")}},
		{"a", "", one, Proof{Kind: Other, Key: "a", Row: []byte("1")}},
		{"a without a row's bytes", "a", bare, Proof{Kind: Own}},
		{"a without a row's bytes", "b", bare, Proof{Kind: Other, Key: "a"}},
		{"no bytes", "", none.Put("", []byte("1")), Proof{Kind: Own, Row: []byte("1")}},
		{"no bytes", "a", none.Put("", []byte("1")), Proof{Kind: Other, Row: []byte("1")}},
		{"a, b", "a", two, Proof{Side: []string{leafB}, Kind: Own, Row: []byte("1")}},
		{"a, b", "b", two, Proof{Side: []string{leafA}, Kind: Own, Row: []byte("2")}},
		{"a, b", "c", two, Proof{Side: []string{leafA}, Kind: Other, Key: "b", Row: []byte("2")}},
	} {
		if got := Build(c.n, c.key); !alike(got, c.want) {
			t.Errorf("Build of %q, of %s: %s: not %s", c.key, c.name, show(got), show(c.want))
		}
	}
	if Nothing != 0 || Own != 1 || Other != 2 {
		t.Error(Nothing, Own, Other)
	}
}

// sides: n of them, all unlike.
func sides(n int) []string {
	var l []string
	for i := range n {
		l = append(l, sum(fmt.Sprint("side ", i)))
	}
	return l
}

// right: proofs that may be, no two alike.
func right() []Proof {
	long := strings.Repeat("\xff", 4000)
	var l []Proof
	for _, n := range []int{0, 1, 2, 255, 256} {
		l = append(l, Proof{Side: sides(n)})
		for _, row := range []string{"", "\x00", "row", strings.Repeat("r", 255), strings.Repeat("r", 256), long[1:], long} {
			l = append(l, Proof{Side: sides(n), Kind: Own, Row: []byte(row)})
			for _, key := range []string{"", "\x00", "row", strings.Repeat("k", 256), long[1:], long} {
				l = append(l, Proof{Side: sides(n), Kind: Other, Key: key, Row: []byte(row)})
			}
		}
	}
	return l
}

// P10.2: Encode.
func TestEncode(t *testing.T) {
	long := strings.Repeat("l", 4000)
	x, y := strings.Repeat("x", 32), strings.Repeat("y", 32)
	for _, c := range []struct {
		p    Proof
		want string
	}{
		{Proof{}, "\x00\x00\x00"},
		{Proof{Side: []string{}, Row: []byte{}}, "\x00\x00\x00"},
		{Proof{Side: []string{x}}, "\x00\x01" + x + "\x00"},
		{Proof{Side: []string{x, y, x}}, "\x00\x03" + x + y + x + "\x00"},
		{Proof{Kind: Own}, "\x00\x00\x01\x00\x00"},
		{Proof{Kind: Own, Row: []byte("ab")}, "\x00\x00\x01\x00\x02ab"},
		{Proof{Side: []string{y, x}, Kind: Own, Row: []byte{0}}, "\x00\x02" + y + x + "\x01\x00\x01\x00"},
		{Proof{Kind: Own, Row: []byte(long)}, "\x00\x00\x01\x0f\xa0" + long},
		{Proof{Kind: Other}, "\x00\x00\x02\x00\x00\x00\x00"},
		{Proof{Kind: Other, Key: "k", Row: []byte("row")}, "\x00\x00\x02\x00\x01k\x00\x03row"},
		{Proof{Kind: Other, Key: "key"}, "\x00\x00\x02\x00\x03key\x00\x00"},
		{Proof{Kind: Other, Row: []byte("row")}, "\x00\x00\x02\x00\x00\x00\x03row"},
		{Proof{Side: []string{x}, Kind: Other, Key: long, Row: []byte(long)}, "\x00\x01" + x + "\x02\x0f\xa0" + long + "\x0f\xa0" + long},
		{Proof{Side: sides(256)}, "\x01\x00" + strings.Join(sides(256), "") + "\x00"},
		{Proof{Side: sides(255), Kind: Own, Row: []byte("r")}, "\x00\xff" + strings.Join(sides(255), "") + "\x01\x00\x01r"},
	} {
		if got := Encode(c.p); string(got) != c.want {
			t.Errorf("Encode of %s: %.80x, not %.80x", show(c.p), got, c.want)
		}
	}
}

// P10.2: Decode tells what was Encoded.
func TestDecodeOfEncode(t *testing.T) {
	for _, p := range right() {
		if got, e := Decode(Encode(p)); e != api.OK || !alike(got, p) || !Same(got, p) {
			t.Errorf("Decode of Encode: %s, %d: not %s", show(got), e, show(p))
		}
	}
}

func wantError(t *testing.T, q string, want api.Errno) {
	t.Helper()
	p, e := Decode([]byte(q))
	if e != want || !alike(p, Proof{}) {
		t.Errorf("Decode(%.80x): %s, %d: not error %d", q, show(p), e, want)
	}
}

// P10.2: bytes that end too soon, at each place.
func TestDecodeShort(t *testing.T) {
	wantError(t, "", api.ErrShort)
	if p, e := Decode(nil); e != api.ErrShort || !alike(p, Proof{}) {
		t.Errorf("Decode(nil): %s, %d", show(p), e)
	}
	for _, p := range []Proof{
		{}, {Side: sides(1)}, {Side: sides(5), Kind: Own, Row: []byte("row")}, {Side: sides(5), Kind: Other, Key: "key", Row: []byte("row")},
		{Kind: Own}, {Kind: Other}, {Kind: Other, Key: "key"}, {Kind: Other, Row: []byte("row")}, {Side: sides(256), Kind: Other, Key: strings.Repeat("k", 4000), Row: bytes.Repeat([]byte("r"), 4000)},
	} {
		q := Encode(p)
		for n := range q {
			wantError(t, string(q[:n]), api.ErrShort)
		}
	}
}

// P10.2: bytes are left.
func TestDecodeLeft(t *testing.T) {
	for _, p := range right() {
		q := string(Encode(p))
		for _, behind := range []string{"\x00", "\x01", "\xff", "\x00\x00\x00", strings.Repeat("z", 40)} {
			wantError(t, q+behind, api.ErrForm)
		}
	}
}

// P10.2: how many Sides, told behind the number, be they there or not.
func TestDecodeCount(t *testing.T) {
	all := strings.Join(sides(300), "")
	for n := range 1 << 16 {
		head := string([]byte{byte(n >> 8), byte(n)})
		if n > 256 {
			wantError(t, head, api.ErrForm)
			wantError(t, head+"\x00", api.ErrForm)
			if n <= 300 {
				wantError(t, head+all[:32*n]+"\x00", api.ErrForm)
			}
			continue
		}
		wantError(t, head, api.ErrShort)
		if n > 0 {
			wantError(t, head+all[:32*n-1], api.ErrShort)
		}
		wantError(t, head+all[:32*n], api.ErrShort)
		if p, e := Decode([]byte(head + all[:32*n] + "\x00")); e != api.OK || !alike(p, Proof{Side: sides(n)}) {
			t.Errorf("%d Sides: %s, %d", n, show(p), e)
		}
	}
}

// P10.2: a Kind is one of the three, behind whatever Sides, ahead of whatever stands behind it.
func TestDecodeKind(t *testing.T) {
	for _, n := range []int{0, 1, 256} {
		head := string(Encode(Proof{Side: sides(n)}))
		head = head[:len(head)-1]
		for kind := range 256 {
			if kind > 2 {
				for _, behind := range []string{"", "\x00", "\x00\x00", "\x00\x00\x00\x00", "\xff\xff"} {
					wantError(t, head+string([]byte{byte(kind)})+behind, api.ErrForm)
				}
			}
		}
		wantError(t, head+"\x00\x00", api.ErrForm)
		wantError(t, head+"\x01", api.ErrShort)
		wantError(t, head+"\x02\x00\x00", api.ErrShort)
	}
}

// P10.2: how long a Key, or a Row, is, told behind the number, be its bytes there or not.
func TestDecodeSizes(t *testing.T) {
	size := func(n int) string { return string([]byte{byte(n >> 8), byte(n)}) }
	for n := range 1 << 16 {
		l := []string{"\x00\x00\x01" + size(n), "\x00\x00\x02" + size(n), "\x00\x00\x02\x00\x00" + size(n), "\x00\x00\x02\x00\x01k" + size(n)}
		for i, q := range l {
			if n > 4000 {
				wantError(t, q, api.ErrForm)
				wantError(t, q+"z", api.ErrForm)
			} else if n > 0 {
				wantError(t, q, api.ErrShort)
				wantError(t, q+strings.Repeat("z", n-1), api.ErrShort)
			} else if i == 1 {
				wantError(t, q, api.ErrShort)
			}
		}
	}
	for _, n := range []int{4001, 4002, 0x1000, 0x7fff, 0x8000, 0xffff} {
		long := strings.Repeat("z", n)
		wantError(t, "\x00\x00\x01"+size(n)+long, api.ErrForm)
		wantError(t, "\x00\x00\x02"+size(n)+long+"\x00\x00", api.ErrForm)
		wantError(t, "\x00\x00\x02\x00\x00"+size(n)+long, api.ErrForm)
	}
}

// P10.2: of several errors the one that is met first, reading on.
func TestDecodeMetFirst(t *testing.T) {
	x := strings.Repeat("x", 32)
	for _, c := range []struct {
		q    string
		want api.Errno
	}{
		// Sides ahead of the Kind, one that isn't whole ahead of all that would stand behind it.
		{"\x01\x01\xff", api.ErrForm},
		{"\x00\x02" + x + "\xff", api.ErrShort},
		{"\x00\x02" + x + x[1:], api.ErrShort},
		{"\x00\x01" + x + "\xff", api.ErrForm},
		// The Kind ahead of a length, a Key ahead of a Row, its length ahead of its bytes.
		{"\x00\x00\x03\xff", api.ErrForm},
		{"\x00\x00\x02\xff", api.ErrShort},
		{"\x00\x00\x02\xff\xff", api.ErrForm},
		{"\x00\x00\x02\x00\x02k", api.ErrShort},
		{"\x00\x00\x02\x00\x05k\xff\xff", api.ErrShort},
		{"\x00\x00\x02\x00\x01k\xff", api.ErrShort},
		{"\x00\x00\x02\x00\x01k\xff\xff", api.ErrForm},
		// A Row ahead of what is left.
		{"\x00\x00\x02\x00\x01k\x00\x02r", api.ErrShort},
		{"\x00\x00\x02\x00\x01k\x00\x02rrr", api.ErrForm},
		{"\x00\x00\x01\x00\x02r", api.ErrShort},
		{"\x00\x00\x01\x00\x02rrr", api.ErrForm},
		{"\x00\x00\x01\x00\x00\x00\x00", api.ErrForm},
		{"\x00\x00\x00\x00\x00", api.ErrForm},
	} {
		wantError(t, c.q, c.want)
	}
}

// P10.2: what Decode allows is what Encode writes: of all bytes of up to 9 out of five that decide something.
func TestDecodeAllowsEncodedAlone(t *testing.T) {
	allowed := map[byte]int{}
	var all func(q []byte, left int)
	all = func(q []byte, left int) {
		p, e := Decode(q)
		switch {
		case e == api.OK:
			allowed[p.Kind]++
			if !bytes.Equal(Encode(p), q) {
				t.Fatalf("Decode(%x): %s", q, show(p))
			}
		case e != api.ErrShort && e != api.ErrForm || !alike(p, Proof{}):
			t.Fatalf("Decode(%x): %s, %d", q, show(p), e)
		}
		if left == 0 {
			return
		}
		for _, c := range []byte{0, 1, 2, 'a', 0xff} {
			all(append(q[:len(q):len(q)], c), left-1)
		}
	}
	all(nil, 9)
	if allowed[Nothing] != 1 || allowed[Own] == 0 || allowed[Other] == 0 {
		t.Errorf("allowed: %v", allowed)
	}
}

// P10.2: with any one byte turned, Decode tells another proof, or an error.
func TestDecodeTurned(t *testing.T) {
	for _, p := range []Proof{{Side: sides(2)}, {Side: sides(1), Kind: Own, Row: []byte("row")}, {Side: sides(2), Kind: Other, Key: "key", Row: []byte("row")}} {
		q := Encode(p)
		for i := range q {
			for c := range 256 {
				turned := bytes.Clone(q)
				turned[i] = byte(c)
				got, e := Decode(turned)
				if e == api.OK && (!bytes.Equal(Encode(got), turned) || alike(got, p) != (turned[i] == q[i])) {
					t.Fatalf("Decode(%x): %s, %d", turned, show(got), e)
				}
			}
		}
	}
}

// clone: a proof that shares nothing with p.
func clone(p Proof) Proof {
	return Proof{Side: slices.Clone(p.Side), Kind: p.Kind, Key: strings.Clone(p.Key), Row: bytes.Clone(p.Row)}
}

// P10.2: Same, of proofs that Encode isn't promised of, too.
func TestSame(t *testing.T) {
	all := append(right(), Proof{Kind: 3}, Proof{Kind: 255}, Proof{Key: "k"}, Proof{Row: []byte("r")}, Proof{Kind: Own, Key: "k"}, Proof{Side: []string{""}}, Proof{Side: []string{"", ""}}, Proof{Side: []string{"ab"}}, Proof{Side: []string{"a", "b"}}, Proof{Side: sides(257)})
	for i, a := range all {
		for k, b := range all {
			if got := Same(a, clone(b)); got != (i == k) {
				t.Errorf("Same(%s, %s) is %t", show(a), show(b), got)
			}
		}
	}
	if !Same(Proof{}, Proof{Side: []string{}, Row: []byte{}}) {
		t.Error("lists of nothing aren't the Same")
	}
	for i := range 8 {
		a, b := Proof{Side: sides(8)}, Proof{Side: sides(8)}
		b.Side[i] = sum("another")
		c := Proof{Side: sides(8)}
		c.Side[i], c.Side[(i+1)%8] = c.Side[(i+1)%8], c.Side[i]
		if Same(a, b) || Same(b, a) || Same(a, c) || Same(c, a) {
			t.Errorf("Same, but for place %d", i)
		}
	}
}

// Nothing is shared: what is handed in, and what is answered, may be written over, and is not written into.
func TestSharesNothing(t *testing.T) {
	m := model{"a": "row", "b": "other", "c": "third"}
	n := m.planted()
	for _, key := range []string{"a", "b", "c", "d", "e"} {
		p := Build(n, key)
		before := clone(p)
		q := Encode(p)
		again := bytes.Clone(q)
		Same(p, before)
		if !alike(p, before) {
			t.Errorf("written into: %s", show(p))
		}
		got, _ := Decode(q)
		Decode(q[:len(q)-1])
		if !bytes.Equal(q, again) {
			t.Errorf("Decode wrote into %x", q)
		}
		clear(q)
		if !alike(got, before) {
			t.Errorf("hangs on what was handed in: %s", show(got))
		}
		clear(p.Row)
		clear(p.Side)
		_ = append(p.Row, "zzzzzzzz"...)
		see(t, n, m, key)
	}
	spare := make([]byte, 3, 64)
	copy(spare, "row")
	Encode(Proof{Kind: Own, Row: spare})
	if !bytes.Equal(spare[3:64], make([]byte, 61)) {
		t.Error("Encode wrote behind a Row's end")
	}
	if d := n.Digest(); d != m.digest(0) {
		t.Errorf("the tree is another one: %x", d)
	}
}

// P1: Build ends, and panics of no tree and no key, also of halves as trees: of these it tells the digests beside the way from their own top on.
func TestBuildOfHalves(t *testing.T) {
	m := model{}
	for i := range 40 {
		m[fmt.Sprint("key ", i)] = fmt.Sprint("row ", i)
	}
	halves := 0
	var walk func(n *trie.Node)
	walk = func(n *trie.Node) {
		halves++
		for i := range 60 {
			key := fmt.Sprint("key ", i)
			if p := Build(n, key); root(key, p) != n.Digest() {
				t.Errorf("Build of %q, of a half of %d keys: %s", key, n.Len(), show(p))
			}
		}
		if l, r, ok := n.Halves(); ok {
			walk(l)
			walk(r)
		}
	}
	walk(m.planted())
	if halves < 79 {
		t.Errorf("%d halves", halves)
	}
}

// P1: no call panics, of proofs that Encode isn't promised of, or of any bytes.
func TestNoPanic(t *testing.T) {
	strange := []Proof{
		{Kind: 3}, {Kind: 255, Key: "k", Row: []byte("r")}, {Side: []string{"", "short"}}, {Side: []string{strings.Repeat("long", 100)}, Kind: Own},
		{Side: sides(257)}, {Side: make([]string, 1<<16+1), Kind: Other}, {Kind: Own, Key: "k", Row: make([]byte, 1<<16+1)}, {Kind: Other, Key: strings.Repeat("k", 1<<17), Row: make([]byte, 4001)},
	}
	for _, p := range strange {
		Decode(Encode(p))
		Same(p, p)
	}
	q := Encode(Proof{Side: sides(1), Kind: Other, Key: "key", Row: []byte("row")})
	for i := range q {
		for k := range q {
			for _, c := range []byte{0, 1, 0x7f, 0x80, 0xff} {
				turned := bytes.Clone(q)
				turned[i], turned[k] = c, 0xff
				Decode(turned)
				Decode(turned[i:])
				Decode(turned[:k])
			}
		}
	}
	for i := range 256 {
		Build(nil, string([]byte{byte(i)}))
		Decode(bytes.Repeat([]byte{byte(i)}, 1<<14))
	}
}

// The chapter's example: Build(nil, x): Nothing, no Sides; its bytes.
func TestExample(t *testing.T) {
	p := Build(nil, "x")
	if p.Kind != Nothing || len(p.Side) != 0 || p.Key != "" || len(p.Row) != 0 {
		t.Error(show(p))
	}
	if q := Encode(p); string(q) != "\x00\x00\x00" {
		t.Errorf("%x", q)
	}
}
