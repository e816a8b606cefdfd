package verify

import (
	"bytes"
	"crypto/sha256"
	"encoding/binary"
	"fmt"
	"maps"
	"slices"
	"strings"
	"testing"

	"countinghouse/proof"
	"countinghouse/trie"
)

// sum: by the library, so that nothing here hangs on package sha or mark.
func sum(p string) string {
	d := sha256.Sum256([]byte(p))
	return string(d[:])
}

// bit is the i-th of a sum, the highest of its first byte being the 0th.
func bit(sum string, i int) int { return int(sum[i/8]>>(7-i%8)) & 1 }

func leafBytes(key, row string) string {
	return string(binary.BigEndian.AppendUint32([]byte{1}, uint32(len(key)))) + key + row
}

// given is what Lay is handed.
type given struct {
	last, sum string
	p         proof.Proof
}

func (g given) lay() []byte { return Lay(g.last, g.sum, g.p) }

// end: what is hashed of a proof's end.
func (g given) end(key string) string {
	switch g.p.Kind {
	case 1:
		return leafBytes(key, string(g.p.Row))
	case 2:
		return leafBytes(g.p.Key, string(g.p.Row))
	}
	return "\x00"
}

// steps: what the chapter says is hashed, from the first on.
func (g given) steps(key string) []string {
	below := g.below(key, sum(key), 0)
	return append([]string{"\x03" + g.last + sum(below[0]) + g.sum}, below...)
}

// below: from the node that has the i-th Side on.
func (g given) below(key, way string, i int) []string {
	if i == len(g.p.Side) {
		return []string{g.end(key)}
	}
	below := g.below(key, way, i+1)
	halves := []string{g.p.Side[i], g.p.Side[i]}
	halves[bit(way, i)] = sum(below[0])
	return append([]string{"\x02" + halves[0] + halves[1]}, below...)
}

// digest is the one behind which the bytes may show something.
func (g given) digest(key string) string { return sum(g.steps(key)[0]) }

// shows: what the chapter says that Check tells behind that digest, sentence by sentence.
func (g given) shows(key, row string, there bool) bool {
	if there {
		return g.p.Kind == 1 && string(g.p.Row) == row
	}
	if row != "" || g.p.Kind == 1 {
		return false
	}
	if g.p.Kind == 0 {
		return true
	}
	way, other := sum(key), sum(g.p.Key)
	for i := range g.p.Side {
		if bit(way, i) != bit(other, i) {
			return false
		}
	}
	return g.p.Key != key
}

// show: what is handed in, not too long to be read.
func (g given) show() string {
	return fmt.Sprintf("%.4x, %.4x, kind %d, key %.20q (%d), row %.20q (%d), %d sides", g.last, g.sum, g.p.Kind, g.p.Key, len(g.p.Key), g.p.Row, len(g.p.Row), len(g.p.Side))
}

// sides: n of them, all unlike.
func sides(n int) []string {
	var l []string
	for i := range n {
		l = append(l, sum(fmt.Sprint("side ", i)))
	}
	return l
}

// some are proofs that may be, of which no two are alike.
func some() []given {
	last, record := sum("last"), sum("record")
	long := strings.Repeat("\xff", 4000)
	l := []given{{record, last, proof.Proof{}}, {last, last, proof.Proof{}}, {strings.Repeat("\x00", 32), strings.Repeat("\xff", 32), proof.Proof{Kind: 1}}}
	for _, n := range []int{0, 1, 2, 3, 8, 9, 255, 256} {
		l = append(l, given{last, record, proof.Proof{Side: sides(n)}})
		for _, row := range []string{"", "\x00", "row", long} {
			l = append(l, given{last, record, proof.Proof{Side: sides(n), Kind: 1, Row: []byte(row)}})
			for _, key := range []string{"", "\x00", "key", "b", long} {
				l = append(l, given{last, record, proof.Proof{Side: sides(n), Kind: 2, Key: key, Row: []byte(row)}})
			}
		}
	}
	return l
}

// keys: of no byte, of one, and longer than a proof's Key may be.
func keys() []string {
	return []string{"", "\x00", "a", "b", "c", "key", "row", strings.Repeat("\xff", 4000), strings.Repeat("k", 70000)}
}

// P11.1: Lay.
func TestLay(t *testing.T) {
	l, s, x := strings.Repeat("l", 32), strings.Repeat("s", 32), strings.Repeat("x", 32)
	for _, c := range []struct {
		g    given
		want string
	}{
		{given{l, s, proof.Proof{}}, l + s + "\x00\x00\x00"},
		{given{s, l, proof.Proof{}}, s + l + "\x00\x00\x00"},
		{given{l, s, proof.Proof{Side: []string{x, l}}}, l + s + "\x00\x02" + x + l + "\x00"},
		{given{l, s, proof.Proof{Side: []string{x}, Kind: 1, Row: []byte("row")}}, l + s + "\x00\x01" + x + "\x01\x00\x03row"},
		{given{l, s, proof.Proof{Kind: 2, Key: "k", Row: []byte("row")}}, l + s + "\x00\x00\x02\x00\x01k\x00\x03row"},
	} {
		if got := c.g.lay(); string(got) != c.want {
			t.Errorf("Lay of %s: %x", c.g.show(), got)
		}
	}
	for _, g := range some() {
		if got := g.lay(); string(got) != g.last+g.sum+string(proof.Encode(g.p)) {
			t.Errorf("Lay of %s: %.80x", g.show(), got)
		}
	}
}

func texts(l [][]byte) []string {
	var s []string
	for _, p := range l {
		s = append(s, string(p))
	}
	return s
}

// wantSteps holds Steps against the model, and each Sum against the bytes ahead of it.
func wantSteps(t *testing.T, g given, key string) {
	t.Helper()
	got, ok := Steps(key, g.lay())
	want := g.steps(key)
	if !ok || !slices.Equal(texts(got), want) || len(got) != len(g.p.Side)+2 {
		t.Fatalf("Steps(%.20q, Lay of %s): %t, %d: %.40x", key, g.show(), ok, len(got), got)
	}
	way := sum(key)
	for i := range got[1:] {
		at := 33 // of a root, and of a right half
		if i > 0 && bit(way, i-1) == 0 {
			at = 1
		}
		if string(got[i][at:at+32]) != sum(string(got[i+1])) {
			t.Fatalf("Steps(%.20q, Lay of %s): step %d hasn't the next one's sum", key, g.show(), i)
		}
		if i > 0 && string(got[i][34-at:66-at]) != g.p.Side[i-1] {
			t.Fatalf("Steps(%.20q, Lay of %s): step %d hasn't its Side", key, g.show(), i)
		}
	}
}

// P11.1: Steps.
func TestSteps(t *testing.T) {
	for _, g := range some() {
		for _, key := range keys() {
			wantSteps(t, g, key)
		}
	}
}

// P11.1: by hand. The sums of a and b begin ca and 3e, in bits 11.. and 00..
func TestStepsByHand(t *testing.T) {
	l, s, x, y := strings.Repeat("l", 32), strings.Repeat("s", 32), strings.Repeat("x", 32), strings.Repeat("y", 32)
	two := []string{x, y}
	own, other := "\x01\x00\x00\x00\x01arow", "\x01\x00\x00\x00\x02xyrow"
	low := "\x02" + y + sum(own)
	lowB := "\x02" + sum(other) + y
	for _, c := range []struct {
		key  string
		p    proof.Proof
		want []string
	}{
		{"a", proof.Proof{}, []string{"\x03" + l + sum("\x00") + s, "\x00"}},
		{"a", proof.Proof{Side: []string{x}}, []string{"\x03" + l + sum("\x02"+x+sum("\x00")) + s, "\x02" + x + sum("\x00"), "\x00"}},
		{"b", proof.Proof{Side: []string{x}}, []string{"\x03" + l + sum("\x02"+sum("\x00")+x) + s, "\x02" + sum("\x00") + x, "\x00"}},
		{"a", proof.Proof{Kind: 1, Row: []byte("row")}, []string{"\x03" + l + sum(own) + s, own}},
		{"a", proof.Proof{Side: two, Kind: 1, Row: []byte("row")}, []string{"\x03" + l + sum("\x02"+x+sum(low)) + s, "\x02" + x + sum(low), low, own}},
		{"b", proof.Proof{Side: two, Kind: 2, Key: "xy", Row: []byte("row")}, []string{"\x03" + l + sum("\x02"+sum(lowB)+x) + s, "\x02" + sum(lowB) + x, lowB, other}},
		{"xy", proof.Proof{Kind: 2, Key: "xy", Row: []byte("row")}, []string{"\x03" + l + sum(other) + s, other}},
	} {
		got, ok := Steps(c.key, Lay(l, s, c.p))
		if !ok || !slices.Equal(texts(got), c.want) {
			t.Errorf("Steps of %q: %t: %q: not %q", c.key, ok, texts(got), c.want)
		}
	}
}

// wantNone: bytes that Lay doesn't lay have no Steps, show nothing, and clash with nothing.
func wantNone(t *testing.T, g given, key string, q []byte) {
	t.Helper()
	if l, ok := Steps(key, q); ok || len(l) != 0 {
		t.Fatalf("Steps(%.20q, %.100x) are %d", key, q, len(l))
	}
	digest, row := g.digest(key), string(g.p.Row)
	for _, d := range []string{digest, "", sum(""), sum(string(q))} {
		if Check(d, key, []byte(row), true, q) || Check(d, key, nil, false, q) || Check(d, key, nil, true, q) {
			t.Fatalf("Check of %.20q, %.100x", key, q)
		}
	}
	if a, b, ok := Clash(key, q, g.lay()); ok || len(a) != 0 || len(b) != 0 {
		t.Fatalf("Clash of %.100x", q)
	}
	if a, b, ok := Clash(key, g.lay(), q); ok || len(a) != 0 || len(b) != 0 {
		t.Fatalf("Clash with %.100x", q)
	}
}

// P11.1, P11.2: bytes that Lay doesn't lay: they end too soon, or something is left.
func TestBytesThatEndElsewhere(t *testing.T) {
	for _, g := range []given{
		{sum("last"), sum("record"), proof.Proof{}},
		{sum("last"), sum("record"), proof.Proof{Side: sides(2), Kind: 1, Row: []byte("row")}},
		{sum("last"), sum("record"), proof.Proof{Side: sides(2), Kind: 2, Key: "b", Row: []byte("row")}},
	} {
		q := g.lay()
		wantNone(t, g, "a", nil)
		for n := range q {
			wantNone(t, g, "a", q[:n])
			wantNone(t, g, "a", q[n+1:])
		}
		for _, behind := range []string{"\x00", "\x01", "\xff", "\x00\x00\x00", strings.Repeat("z", 64)} {
			wantNone(t, g, "a", append(bytes.Clone(q), behind...))
		}
		wantNone(t, g, "a", q[32:])
		wantNone(t, g, "a", q[64:])
		wantNone(t, g, "a", append(bytes.Clone(q), q...))
	}
}

// P11.1, P11.2: bytes that Lay doesn't lay: what they tell is more than may be, or no Kind.
func TestBytesOfTooMuch(t *testing.T) {
	g := given{sum("last"), sum("record"), proof.Proof{}}
	head := g.last + g.sum
	long := strings.Repeat("z", 4001)
	for _, q := range []string{
		"\x00\x00\x03", "\x00\x00\x03\x00\x00", "\x00\x00\xff\x00\x00\x00\x00", "\x00\x00\x80",
		"\x01\x01" + strings.Join(sides(257), "") + "\x00", "\x01\x01" + strings.Join(sides(257), "") + "\x01\x00\x00", "\xff\xff\x00",
		"\x00\x00\x01\x0f\xa1" + long, "\x00\x00\x02\x0f\xa1" + long + "\x00\x00", "\x00\x00\x02\x00\x01k\x0f\xa1" + long,
	} {
		wantNone(t, g, "a", []byte(head+q))
	}
	for _, p := range []proof.Proof{{Kind: 3}, {Kind: 255, Key: "k", Row: []byte("row")}, {Side: sides(257)}, {Kind: 1, Row: []byte(long)}, {Kind: 2, Key: long}} {
		wantNone(t, g, "a", Lay(g.last, g.sum, p))
	}
}

// answer is what may be asked of a key.
type answer struct {
	row   string
	there bool
}

func answers() []answer {
	return []answer{{"", false}, {"x", false}, {"row", false}, {"", true}, {"\x00", true}, {"row", true}, {"ro", true}, {"rows", true}, {"roW", true}, {strings.Repeat("\xff", 4000), true}, {strings.Repeat("\xff", 3999), true}}
}

// P11.2: each proof that may be, of each key, with each answer, behind its digest, and behind others.
func TestCheck(t *testing.T) {
	shown := map[string]int{}
	for _, g := range some() {
		q := g.lay()
		for _, key := range []string{"", "\x00", "a", "b", "key", strings.Repeat("\xff", 4000), strings.Repeat("k", 5000)} {
			digest := g.digest(key)
			for _, a := range answers() {
				want := g.shows(key, a.row, a.there)
				if got := Check(digest, key, []byte(a.row), a.there, q); got != want {
					t.Fatalf("Check of %.20q, %.20q, %t, with %s: %t", key, a.row, a.there, g.show(), got)
				}
				if want {
					shown[fmt.Sprint(g.p.Kind, a.there, len(g.p.Side) > 0)]++
				}
				for _, d := range []string{"", digest[:31], digest + "\x00", sum(digest)} {
					if want && Check(d, key, []byte(a.row), a.there, q) {
						t.Fatalf("Check of %.20q, %.20q, %t, with %s, behind another digest", key, a.row, a.there, g.show())
					}
				}
			}
		}
	}
	for _, s := range []string{"0 false false", "0 false true", "1 true false", "1 true true", "2 false false", "2 false true"} {
		if shown[s] == 0 {
			t.Errorf("nothing of the sort %s was shown: %v", s, shown)
		}
	}
}

// digestOf is that of the tree of these keys, at a depth.
func digestOf(m map[string]string, depth int) string {
	switch len(m) {
	case 0:
		return sum("\x00")
	case 1:
		for key, row := range m {
			return sum(leafBytes(key, row))
		}
	}
	halves := []map[string]string{{}, {}}
	for key, row := range m {
		halves[bit(sum(key), depth)][key] = row
	}
	return sum("\x02" + digestOf(halves[0], depth+1) + digestOf(halves[1], depth+1))
}

func planted(m map[string]string) *trie.Node {
	var n *trie.Node
	for key, row := range m {
		n = n.Put(key, []byte(row))
	}
	return n
}

// sets are all sets of some rows.
func sets(m map[string]string) []map[string]string {
	l := []map[string]string{{}}
	for key, row := range m {
		for _, s := range slices.Clone(l) {
			c := maps.Clone(s)
			c[key] = row
			l = append(l, c)
		}
	}
	return l
}

// P11.2: behind the digest of a set of rows, of all sets: each key's proof shows what is there of it, and no proof shows anything else.
func TestCheckOfTrees(t *testing.T) {
	rows := map[string]string{"": "0", "a": "1", "b": "2", "c": "", "d": "1", "e": "5"}
	asked := []string{"", "a", "b", "c", "d", "e", "f", "g", "h"}
	last, record := sum("last"), sum("record")
	for _, m := range sets(rows) {
		n := planted(m)
		digest := sum("\x03" + last + digestOf(m, 0) + record)
		for _, of := range asked {
			q := Lay(last, record, proof.Build(n, of))
			for _, key := range asked {
				row, there := m[key]
				if key == of && !Check(digest, key, []byte(row), there, q) {
					t.Fatalf("what is there of %q isn't shown, of %q", key, m)
				}
				for _, a := range []answer{{"", false}, {"", true}, {"0", true}, {"1", true}, {"2", true}, {"5", true}, {"6", true}, {"1", false}} {
					if a != (answer{row, there}) && Check(digest, key, []byte(a.row), a.there, q) {
						t.Fatalf("shown of %q: %q, %t: by the proof of %q, of %q", key, a.row, a.there, of, m)
					}
				}
			}
			if row, there := m[of]; Check(digestOf(m, 0), of, []byte(row), there, q) {
				t.Fatalf("a root's digest is taken for a state's, of %q", m)
			}
		}
	}
}

// P11.2: of many rows.
func TestCheckOfMany(t *testing.T) {
	m := map[string]string{}
	for i := range 300 {
		m[fmt.Sprint("key ", i)] = strings.Repeat("r", i%7)
	}
	n := planted(m)
	g := given{last: sum("last"), sum: sum("record")}
	digest := sum("\x03" + g.last + digestOf(m, 0) + g.sum)
	for i := range 600 {
		key := fmt.Sprint("key ", i)
		g.p = proof.Build(n, key)
		row, there := m[key]
		q := g.lay()
		if !Check(digest, key, []byte(row), there, q) || Check(digest, key, nil, !there, q) || Check(digest, key, []byte(row+"r"), true, q) {
			t.Errorf("%q: %s", key, g.show())
		}
		wantSteps(t, g, key)
	}
}

// P11.2: with any one bit turned, of the bytes or of the digest, nothing is shown.
func TestCheckTurned(t *testing.T) {
	n := planted(map[string]string{"a": "1", "b": "22", "d": "333", "e": ""})
	last, record := sum("last"), sum("record")
	digest := sum("\x03" + last + n.Digest() + record)
	for _, c := range []struct {
		key, row string
		there    bool
	}{{"a", "1", true}, {"b", "22", true}, {"e", "", true}, {"c", "", false}, {"f", "", false}, {"g", "", false}, {"h", "", false}} {
		q := Lay(last, record, proof.Build(n, c.key))
		if !Check(digest, c.key, []byte(c.row), c.there, q) {
			t.Fatalf("%q isn't shown", c.key)
		}
		for i := range 8 * len(q) {
			turned := bytes.Clone(q)
			turned[i/8] ^= 1 << (i % 8)
			if Check(digest, c.key, []byte(c.row), c.there, turned) || Check(digest, c.key, nil, !c.there, turned) {
				t.Fatalf("%q is shown by %x, with bit %d turned", c.key, turned, i)
			}
		}
		for i := range 8 * len(digest) {
			turned := []byte(digest)
			turned[i/8] ^= 1 << (i % 8)
			if Check(string(turned), c.key, []byte(c.row), c.there, q) {
				t.Fatalf("%q is shown behind %x, with bit %d turned", c.key, turned, i)
			}
		}
	}
}

// P11.2: who lays a key's leaf where its bits don't lead has shown nothing of whom they lead there. The sums of a, b, c begin ca, 3e, 2e.
func TestCheckMisplaced(t *testing.T) {
	last, record, x := sum("last"), sum("record"), sum("x")
	for _, c := range []struct {
		key, other string
		sides      int
		want       bool
	}{
		{"b", "a", 0, true}, {"b", "a", 1, false}, {"a", "b", 0, true}, {"a", "b", 1, false},
		{"b", "c", 0, true}, {"b", "c", 1, true}, {"b", "c", 2, true}, {"b", "c", 3, true}, {"b", "c", 4, false}, {"b", "c", 5, false},
		{"c", "b", 3, true}, {"c", "b", 4, false}, {"a", "a", 0, false}, {"a", "a", 1, false}, {"a", "a", 256, false},
	} {
		g := given{last, record, proof.Proof{Side: slices.Repeat([]string{x}, c.sides), Kind: 2, Key: c.other, Row: []byte("row")}}
		if got := Check(g.digest(c.key), c.key, nil, false, g.lay()); got != c.want {
			t.Errorf("that %q isn't there, by a leaf of %q beside %d Sides: %t", c.key, c.other, c.sides, got)
		}
		if Check(g.digest(c.key), c.key, []byte("row"), true, g.lay()) {
			t.Errorf("%q is there by a leaf of %q", c.key, c.other)
		}
	}
}

// deep are two keys whose sums part late, and after how many bits.
func deep() (string, string, int) {
	seen := map[uint32]string{}
	for i := 0; ; i++ {
		key := fmt.Sprint("deep ", i)
		head := binary.BigEndian.Uint32([]byte(sum(key))) >> 12
		other, ok := seen[head]
		if !ok {
			seen[head] = key
			continue
		}
		for n := 20; ; n++ {
			if bit(sum(key), n) != bit(sum(other), n) {
				return key, other, n
			}
		}
	}
}

// P11.2: of two keys whose sums part late, at each depth about that one.
func TestCheckDeep(t *testing.T) {
	key, other, n := deep()
	for i := range n + 3 {
		g := given{sum("last"), sum("record"), proof.Proof{Side: sides(i), Kind: 2, Key: other}}
		if got := Check(g.digest(key), key, nil, false, g.lay()); got != (i <= n) {
			t.Errorf("Check at depth %d of %d: %t", i, n, got)
		}
		wantSteps(t, g, key)
	}
	tree := planted(map[string]string{key: "1", other: "2"})
	digest := sum("\x03" + sum("last") + tree.Digest() + sum("record"))
	for _, c := range []struct{ key, row string }{{key, "1"}, {other, "2"}} {
		q := Lay(sum("last"), sum("record"), proof.Build(tree, c.key))
		if !Check(digest, c.key, []byte(c.row), true, q) || Check(digest, c.key, nil, false, q) {
			t.Errorf("%q at the depth %d", c.key, n)
		}
	}
}

// P11.3: where no two unlike texts have one sum there is no Clash, be the bytes alike or not.
func TestClashNone(t *testing.T) {
	l := some()
	for i, g := range l {
		for _, h := range []given{g, l[(i+1)%len(l)], l[(i*7+3)%len(l)]} {
			if a, b, ok := Clash("key", g.lay(), h.lay()); ok || len(a) != 0 || len(b) != 0 {
				t.Errorf("Clash of %s and %s: %x, %x", g.show(), h.show(), a, b)
			}
		}
	}
	if a, b, ok := Clash("key", nil, nil); ok || len(a) != 0 || len(b) != 0 {
		t.Errorf("Clash of nothing: %x, %x", a, b)
	}
}

// Nothing is shared: what is handed in, and what is answered, may be written over, and is not written into.
func TestSharesNothing(t *testing.T) {
	g := given{sum("last"), sum("record"), proof.Proof{Side: sides(3), Kind: 1, Row: []byte("row")}}
	before := given{g.last, g.sum, proof.Proof{Side: slices.Clone(g.p.Side), Kind: 1, Row: bytes.Clone(g.p.Row)}}
	q := g.lay()
	if !proof.Same(g.p, before.p) {
		t.Error("Lay wrote into a proof")
	}
	clear(g.p.Row)
	clear(g.p.Side)
	spare := append(make([]byte, 0, len(q)+64), q...)
	again, want := bytes.Clone(q), before.steps("a")
	l, _ := Steps("a", spare)
	Check(before.digest("a"), "a", spare[len(q)-3:], true, spare)
	Clash("a", spare, spare)
	if !bytes.Equal(spare, again) || !bytes.Equal(spare[len(q):len(q)+64], make([]byte, 64)) {
		t.Error("written into")
	}
	clear(spare)
	if !slices.Equal(texts(l), want) {
		t.Error("Steps hang on what was handed in")
	}
	for i := range l {
		_ = append(l[i], strings.Repeat("z", 100)...)
		clear(l[i])
		if !slices.Equal(texts(l[i+1:]), want[i+1:]) {
			t.Errorf("step %d shares with those behind it", i)
		}
	}
	if l, _ := Steps("a", q); !slices.Equal(texts(l), want) {
		t.Error("Steps hang on what was answered")
	}
}

// P1: no call panics, of proofs that Lay isn't promised of, or of any bytes.
func TestNoPanic(t *testing.T) {
	strange := []proof.Proof{
		{Kind: 3}, {Kind: 255, Key: "k", Row: []byte("r")}, {Side: []string{"", "short"}}, {Side: []string{strings.Repeat("long", 100)}, Kind: 1},
		{Side: sides(257)}, {Side: make([]string, 1<<16+1), Kind: 2}, {Kind: 1, Key: "k", Row: make([]byte, 1<<16+1)}, {Kind: 2, Key: strings.Repeat("k", 1<<17), Row: make([]byte, 4001)},
	}
	all := [][]byte{nil, {}, {0}, make([]byte, 63), make([]byte, 64), make([]byte, 66), make([]byte, 67), bytes.Repeat([]byte{0xff}, 67), make([]byte, 1<<16)}
	for _, p := range strange {
		for _, d := range []string{"", "short", sum(""), strings.Repeat("long", 100)} {
			all = append(all, Lay(d, sum(""), p), Lay(sum(""), d, p), Lay(d, d, p))
		}
	}
	q := Lay(sum("last"), sum("record"), proof.Proof{Side: sides(1), Kind: 2, Key: "key", Row: []byte("row")})
	for i := 64; i < len(q); i++ {
		for _, c := range []byte{0, 1, 2, 0x7f, 0x80, 0xff} {
			turned := bytes.Clone(q)
			turned[i] = c
			all = append(all, turned, turned[i:], turned[:i], turned[i-64:])
		}
	}
	for i, p := range all {
		for _, key := range []string{"", "key", "\xff\xfe"} {
			Steps(key, p)
			Check("", key, nil, false, p)
			Check(sum(""), key, nil, true, p)
			Check(strings.Repeat("long", 100), key, p, i%2 == 0, p)
			Clash(key, p, all[(i+1)%len(all)])
		}
	}
}

// The chapter's example: Steps of x, and of Lay of a proof of Nothing without a Side: a link of 97 bytes, and the byte 0.
func TestExample(t *testing.T) {
	l, ok := Steps("x", Lay(sum("last"), sum("record"), proof.Build(nil, "x")))
	if !ok || len(l) != 2 || len(l[0]) != 97 || l[0][0] != 3 || !bytes.Equal(l[1], []byte{0}) {
		t.Errorf("%t, %x", ok, l)
	}
}
