package trie

import (
	"bytes"
	"crypto/sha256"
	"encoding/binary"
	"fmt"
	"maps"
	"slices"
	"strings"
	"testing"
)

// model is keys and their rows, from which the tests work out by themselves what a tree should tell.
type model map[string]string

// sum: by the library, so that nothing here hangs on package sha or mark.
func sum(p []byte) string {
	d := sha256.Sum256(p)
	return string(d[:])
}

// bit is the i-th of a key's sum, the highest of its first byte being the 0th.
func bit(key string, i int) byte {
	return sum([]byte(key))[i/8] >> (7 - i%8) & 1
}

// part is the keys whose i-th bit is b.
func (m model) part(i int, b byte) model {
	half := model{}
	for key, row := range m {
		if bit(key, i) == b {
			half[key] = row
		}
	}
	return half
}

// digest is what the chapter says of these keys, at a depth.
func (m model) digest(depth int) string {
	switch len(m) {
	case 0:
		return sum([]byte{0})
	case 1:
		for key, row := range m {
			p := binary.BigEndian.AppendUint32([]byte{1}, uint32(len(key)))
			return sum([]byte(string(p) + key + row))
		}
	}
	return sum([]byte("\x02" + m.part(depth, 0).digest(depth+1) + m.part(depth, 1).digest(depth+1)))
}

func (m model) keys() []string { return slices.Sorted(maps.Keys(m)) }

// with and without are others, so that a model stays as it is, as a tree does.
func (m model) with(key, row string) model {
	c := maps.Clone(m)
	c[key] = row
	return c
}

func (m model) without(key string) model {
	c := maps.Clone(m)
	delete(c, key)
	return c
}

// planted is the tree of a model's keys, put one behind the other in this order.
func (m model) planted(keys []string) *Node {
	var n *Node
	for _, key := range keys {
		n = n.Put(key, []byte(m[key]))
	}
	return n
}

// see holds a tree that stands at a depth, and all its halves, against a model.
func see(t *testing.T, where string, n *Node, m model, depth int) {
	t.Helper()
	if got := n.Digest(); got != m.digest(depth) {
		t.Errorf("%s: at depth %d, of %q: Digest is %x", where, depth, m.keys(), got)
	}
	if got := n.Len(); got != len(m) {
		t.Errorf("%s: at depth %d, of %q: Len is %d", where, depth, m.keys(), got)
	}
	if got := n.Keys(); !slices.Equal(got, m.keys()) {
		t.Errorf("%s: at depth %d, of %q: Keys is %q", where, depth, m.keys(), got)
	}
	if (n == nil) != (len(m) == 0) {
		t.Errorf("%s: at depth %d, of %q: nil is %t", where, depth, m.keys(), n == nil)
	}
	for key, row := range m {
		seeRow(t, where, n, key, row)
	}
	seeLeaf(t, where, n, m)
	l, r, ok := n.Halves()
	if ok != (len(m) > 1) || !ok && (l != nil || r != nil) {
		t.Errorf("%s: at depth %d, of %q: Halves are %v, %v, %t", where, depth, m.keys(), l, r, ok)
	}
	if ok && !t.Failed() {
		see(t, where, l, m.part(depth, 0), depth+1)
		see(t, where, r, m.part(depth, 1), depth+1)
	}
}

func seeRow(t *testing.T, where string, n *Node, key, row string) {
	t.Helper()
	if got, ok := n.Get(key); string(got) != row || !ok {
		t.Errorf("%s: Get of %.20q: %.20q, %t", where, key, got, ok)
	}
}

func seeGone(t *testing.T, where string, n *Node, key string) {
	t.Helper()
	if got, ok := n.Get(key); len(got) != 0 || ok {
		t.Errorf("%s: Get of %.20q: %.20q, %t", where, key, got, ok)
	}
}

// seeLeaf: of one key there is its leaf, of others nothing is told.
func seeLeaf(t *testing.T, where string, n *Node, m model) {
	t.Helper()
	key, row, ok := n.Leaf()
	want := ""
	if len(m) == 1 {
		want = m.keys()[0]
	}
	if ok != (len(m) == 1) || key != want || string(row) != m[want] && ok || len(row) != 0 && !ok {
		t.Errorf("%s: of %q: Leaf is %.20q, %.20q, %t", where, m.keys(), key, row, ok)
	}
}

// alikeKeys are two whose sums begin with many bits that are the same.
func alikeKeys(t *testing.T) (string, string) {
	t.Helper()
	keys := make([]string, 1<<12)
	for i := range keys {
		keys[i] = fmt.Sprint("key ", i)
	}
	slices.SortFunc(keys, func(a, b string) int { return strings.Compare(sum([]byte(a)), sum([]byte(b))) })
	best, most := 0, 0
	for i := range len(keys) - 1 {
		if n := sameBits(keys[i], keys[i+1]); n > most {
			best, most = i, n
		}
	}
	if most < 20 {
		t.Fatalf("only %d bits are the same", most)
	}
	return keys[best], keys[best+1]
}

func sameBits(a, b string) int {
	n := 0
	for bit(a, n) == bit(b, n) {
		n++
	}
	return n
}

// someRows: keys of every sort, with unlike rows, two of the keys with sums that part late.
func someRows(t *testing.T) model {
	t.Helper()
	a, b := alikeKeys(t)
	return model{
		"": "of no bytes", "\x00": "", "a": "1", "b": "\x00", "ab": "1", "\xff\xfe": "not\xffUTF-8",
		"key": strings.Repeat("long ", 100), a: "one", b: "other",
	}
}

// sets are all sets of a model's rows.
func (m model) sets() []model {
	l := []model{{}}
	for _, key := range m.keys() {
		for _, s := range slices.Clone(l) {
			l = append(l, s.with(key, m[key]))
		}
	}
	return l
}

// P9.1, P9.2: each set of keys has its shape, put rising or falling; what isn't in it isn't there.
func TestAllSets(t *testing.T) {
	all := someRows(t)
	for _, m := range all.sets() {
		rising := m.keys()
		falling := m.keys()
		slices.Reverse(falling)
		see(t, "rising", m.planted(rising), m, 0)
		n := m.planted(falling)
		see(t, "falling", n, m, 0)
		for key := range all {
			if _, ok := m[key]; !ok {
				seeGone(t, "falling", n, key)
			}
		}
	}
}

// P9.1: of keys that are put in whatever order there is one tree.
func TestAllOrders(t *testing.T) {
	m := someRows(t)
	keys := m.keys()[:6]
	for key := range m {
		if !slices.Contains(keys, key) {
			delete(m, key)
		}
	}
	want := m.digest(0)
	orders := 0
	var walk func(done int)
	walk = func(done int) {
		if done == len(keys) {
			orders++
			if got := m.planted(keys).Digest(); got != want {
				t.Errorf("order %q: %x", keys, got)
			}
		}
		for i := done; i < len(keys); i++ {
			keys[done], keys[i] = keys[i], keys[done]
			walk(done + 1)
			keys[done], keys[i] = keys[i], keys[done]
		}
	}
	walk(0)
	if orders != 720 {
		t.Errorf("%d orders", orders)
	}
}

// P9.2: from each set each key is taken away, and each is given another row; the set itself stays.
func TestPutAndDelOfAllSets(t *testing.T) {
	all := someRows(t).without("key").without("ab")
	for _, m := range all.sets() {
		n := m.planted(m.keys())
		for key := range all {
			see(t, "Del of "+key, n.Del(key), m.without(key), 0)
			see(t, "Put of "+key, n.Put(key, []byte("new")), m.with(key, "new"), 0)
			see(t, "Put of nothing for "+key, n.Put(key, nil), m.with(key, ""), 0)
			if old, ok := m[key]; ok {
				see(t, "Put again of "+key, n.Put(key, []byte(old)), m, 0)
			}
		}
		see(t, "the set itself", n, m, 0)
	}
}

// P9.1: two keys part at the first bit at which their sums do; ahead of it each node has a half that is nil.
func TestLateParting(t *testing.T) {
	a, b := alikeKeys(t)
	m := model{a: "one", b: "other"}
	n := m.planted([]string{a, b})
	apart := sameBits(a, b)
	for depth := range apart {
		l, r, ok := n.Halves()
		if !ok || bit(a, depth) == 0 && r != nil || bit(a, depth) == 1 && l != nil {
			t.Fatalf("at depth %d: %v, %v, %t", depth, l, r, ok)
		}
		n = l
		if bit(a, depth) == 1 {
			n = r
		}
	}
	l, r, ok := n.Halves()
	if !ok || l.Len() != 1 || r.Len() != 1 {
		t.Errorf("at depth %d: %d, %d, %t", apart, l.Len(), r.Len(), ok)
	}
	if bit(a, apart) == 1 {
		l, r = r, l
	}
	seeRow(t, "where they part", l, a, "one")
	seeRow(t, "where they part", r, b, "other")
	whole := m.planted([]string{a, b})
	see(t, "the one alone", whole.Del(b), m.without(b), 0)
	see(t, "the other alone", whole.Del(a), m.without(a), 0)
}

// P9.1: the digests, of bytes written out by hand.
func TestDigestByHand(t *testing.T) {
	var none *Node
	a := none.Put("a", []byte("1"))
	b := none.Put("b", []byte("2"))
	leafA, leafB := sum([]byte("\x01\x00\x00\x00\x01a1")), sum([]byte("\x01\x00\x00\x00\x01b2"))
	both := sum([]byte("\x02" + leafB + leafA)) // the sums of a and b begin ca and 3e
	for _, c := range []struct {
		name string
		n    *Node
		want string
	}{
		{"nil", none, sum([]byte{0})},
		{"a", a, leafA},
		{"b", b, leafB},
		{"a, b", a.Put("b", []byte("2")), both},
		{"b, a", b.Put("a", []byte("1")), both},
	} {
		if got := c.n.Digest(); got != c.want {
			t.Errorf("%s: %x, not %x", c.name, got, c.want)
		}
	}
}

// walked is a tree that was there on a walk, and what was in it.
type walked struct {
	n *Node
	m model
}

// P9.2: on long walks each tree is what it should be, and none that was there is ever changed.
func TestNoTreeChanges(t *testing.T) {
	x := uint32(7)
	pick := func(n int) int {
		x = x*1664525 + 1013904223
		return int(x>>8) % n
	}
	for _, many := range []int{3, 10, 40} {
		was := []walked{{nil, model{}}}
		for i := range 300 {
			from := was[max(0, len(was)-1-pick(3))]
			key, row := fmt.Sprint(pick(many)), fmt.Sprint("row ", i)
			next := walked{from.n.Put(key, []byte(row)), from.m.with(key, row)}
			if pick(2) == 0 {
				next = walked{from.n.Del(key), from.m.without(key)}
			}
			see(t, "just made", next.n, next.m, 0)
			was = append(was, next)
		}
		for i, w := range was {
			see(t, fmt.Sprint("behind all, tree ", i), w.n, w.m, 0)
		}
	}
}

// P9.2: Del of a key that isn't there, be it led to a leaf of another, to a half that is nil, or to nothing, is the tree as it was.
func TestDelOfNothing(t *testing.T) {
	var none *Node
	if none.Del("a") != nil || none.Del("") != nil {
		t.Error("Del of nil's")
	}
	one := none.Put("a", []byte("1"))
	m := model{"a": "1"}
	for i := range 50 {
		see(t, "of one key", one.Del(fmt.Sprint("no ", i)), m, 0)
	}
	a, b := alikeKeys(t)
	m = model{a: "one", b: "other"}
	n := m.planted([]string{a, b})
	for i := range 50 {
		see(t, "of two keys", n.Del(fmt.Sprint("no ", i)), m, 0)
	}
}

// P9.2: Keys are rising by their bytes, whatever their sums do.
func TestKeysRise(t *testing.T) {
	want := []string{"", "\x00", "\x00\x00", "\x00\xff", "\x01", "A", "B", "a", "a\x00", "aa", "ab", "b", "\x7f", "\x80", "é", "\xff", "\xff\x00", "\xff\xff"}
	var n *Node
	for i := range want {
		n = n.Put(want[i*7%len(want)], nil)
	}
	if got := n.Keys(); !slices.Equal(got, want) {
		t.Errorf("%q", got)
	}
	if got := (*Node)(nil).Keys(); len(got) != 0 {
		t.Errorf("of nil: %q", got)
	}
}

// P9.1, P9.2: a half is a tree, too, at its depth: what is asked of it, put in it and taken from it holds there.
func TestHalvesAreTrees(t *testing.T) {
	m := model{}
	for i := range 40 {
		m[fmt.Sprint("key ", i)] = fmt.Sprint("row ", i)
	}
	n := m.planted(m.keys())
	seeHalves(t, n, m, m, 0)
	see(t, "the whole", n, m, 0)
}

func seeHalves(t *testing.T, n *Node, m, whole model, depth int) {
	t.Helper()
	l, r, ok := n.Halves()
	if !ok {
		return
	}
	for key := range whole {
		if _, ok := m[key]; !ok {
			seeGone(t, "a half", n, key)
			see(t, "Del of another half's key", n.Del(key), m, depth)
			see(t, "Put of another half's key", n.Put(key, []byte("new")), m.with(key, "new"), depth)
		}
	}
	for key := range m {
		less := m.without(key)
		see(t, "Del", n.Del(key), less, depth)
		see(t, "Put", n.Put(key, []byte("new")), m.with(key, "new"), depth)
		if len(less) > 1 {
			see(t, "Del, Put", n.Del(key).Put(key, []byte("back")), m.with(key, "back"), depth)
		}
	}
	seeHalves(t, l, m.part(depth, 0), whole, depth+1)
	seeHalves(t, r, m.part(depth, 1), whole, depth+1)
}

// P9.1: a half that is a leaf is the tree of its key, as it would be alone.
func TestLeafHalves(t *testing.T) {
	a, b := alikeKeys(t)
	m := model{a: "one", b: "other", "a": "1", "b": "2"}
	var seen func(n *Node)
	leaves := 0
	seen = func(n *Node) {
		if l, r, ok := n.Halves(); ok {
			seen(l)
			seen(r)
			return
		}
		if key, row, ok := n.Leaf(); ok {
			leaves++
			alone := model{key: string(row)}
			see(t, "a leaf", n, alone, 0)
			for other := range m {
				see(t, "a leaf, Put", n.Put(other, []byte("new")), alone.with(other, "new"), 0)
			}
		}
	}
	seen(m.planted(m.keys()))
	if leaves != len(m) {
		t.Errorf("%d leaves", leaves)
	}
}

// P9.1, P9.2: many keys, some taken away again, some with other rows, come to the tree of what is left.
func TestMany(t *testing.T) {
	const many = 2000
	m := model{}
	var n *Node
	for i := range many {
		key := string(binary.BigEndian.AppendUint16(nil, uint16(i*7)))
		m[key] = fmt.Sprint(i)
		n = n.Put(key, []byte(m[key]))
	}
	see(t, "all", n, m, 0)
	for i, key := range m.keys() {
		switch i % 3 {
		case 0:
			delete(m, key)
			n = n.Del(key)
		case 1:
			m[key] = "other"
			n = n.Put(key, []byte("other"))
		}
	}
	see(t, "some", n, m, 0)
	for _, key := range m.keys() {
		n = n.Del(key)
	}
	if n != nil {
		t.Errorf("none: %d keys are left", n.Len())
	}
}

// P9.1, P9.2: keys and rows of no byte, and of very many.
func TestSizes(t *testing.T) {
	m := model{}
	for _, size := range []int{0, 1, 31, 32, 33, 255, 256, 4000, 1<<16 + 1} {
		key := strings.Repeat("k", size)
		for _, rows := range []int{0, 1, 4000, 1<<16 + 1} {
			m[key] = strings.Repeat("r", rows)
			see(t, fmt.Sprint(size, " and ", rows), model{key: m[key]}.planted([]string{key}), model{key: m[key]}, 0)
		}
	}
	see(t, "all", m.planted(m.keys()), m, 0)
}

// P9.2: a row of no bytes is there, be it put as nil or as none, and is told from none at all.
func TestEmptyRow(t *testing.T) {
	var none *Node
	for _, row := range [][]byte{nil, {}} {
		n := none.Put("a", row)
		if got, ok := n.Get("a"); len(got) != 0 || !ok {
			t.Errorf("Get: %q, %t", got, ok)
		}
		if key, got, ok := n.Leaf(); key != "a" || len(got) != 0 || !ok {
			t.Errorf("Leaf: %q, %q, %t", key, got, ok)
		}
		seeGone(t, "another's", n, "b")
		seeGone(t, "that of no bytes", n, "")
	}
}

// P1: a nil tree is one of no keys.
func TestNil(t *testing.T) {
	var none *Node
	see(t, "nil", none, model{}, 0)
	for _, key := range []string{"", "a", "\x00", strings.Repeat("k", 5000)} {
		seeGone(t, "nil", none, key)
		if none.Del(key) != nil {
			t.Errorf("Del of %.20q", key)
		}
		see(t, "Put in nil", none.Put(key, []byte("row")), model{key: "row"}, 0)
	}
	see(t, "nil, behind all", none, model{}, 0)
}

// P1: whatever bytes a key has, all calls end.
func TestStrangeKeys(t *testing.T) {
	m := model{}
	var n *Node
	for i := range 256 {
		for _, key := range []string{string([]byte{byte(i)}), string([]byte{byte(i), 0}), string(bytes.Repeat([]byte{byte(i)}, 32)), string(rune(i << 8))} {
			m[key] = key
			n = n.Put(key, []byte(key))
		}
	}
	see(t, "strange", n, m, 0)
	for key := range m {
		n = n.Del(key)
	}
	if n != nil {
		t.Errorf("%d keys are left", n.Len())
	}
}

// Nothing is shared: what is handed in, and what is answered, may be written over, and is not written into.
func TestSharesNothing(t *testing.T) {
	m := model{"a": "row", "b": "other"}
	var n *Node
	buffer := []byte("row and what stands behind it")
	n = n.Put("a", buffer[:3])
	if string(buffer) != "row and what stands behind it" {
		t.Errorf("Put wrote into the row: %q", buffer)
	}
	clear(buffer)
	see(t, "a row is written over", n, m.without("b"), 0)
	_, row, _ := n.Leaf()
	clear(row)
	_ = append(row, "zzzzzzzz"...)
	see(t, "a leaf's row is written over", n, m.without("b"), 0)
	n = n.Put("b", []byte("other"))
	for key := range m {
		got, _ := n.Get(key)
		clear(got)
		_ = append(got, "zzzzzzzz"...)
	}
	see(t, "rows that were answered are written over", n, m, 0)
	first, second := n.Keys(), n.Keys()
	clear(first)
	if !slices.Equal(second, m.keys()) || !slices.Equal(n.Keys(), m.keys()) {
		t.Errorf("Keys that were answered are written over: %q", second)
	}
}

// The chapter's example: Put of a, and Del of a: nil.
func TestExample(t *testing.T) {
	var n *Node
	if n.Put("a", []byte("1")).Del("a") != nil {
		t.Error("it isn't nil")
	}
}
