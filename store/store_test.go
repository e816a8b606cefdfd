package store

import (
	"math"
	"slices"
	"strconv"
	"strings"
	"testing"

	"countinghouse/api"
)

func row(key, row string) api.Write { return api.Write{Key: key, Row: []byte(row)} }
func gone(key string) api.Write     { return api.Write{Key: key, Gone: true} }

// applies is a call of Apply, held against what it should answer.
func applies(t *testing.T, s *Store, n int64, e api.Errno, l ...api.Write) {
	t.Helper()
	if f := s.Apply(api.Batch{N: n, Writes: l}); f != e {
		t.Errorf("Apply of the batch %d answers %d, not %d", n, int(f), int(e))
	}
}

// made is a store with those batches, the first one being 1.
func made(t *testing.T, l ...[]api.Write) *Store {
	t.Helper()
	s := New()
	for i, writes := range l {
		applies(t, s, int64(i+1), api.OK, writes...)
	}
	return s
}

func batch(l ...api.Write) []api.Write { return l }

// some is a store with three batches: a has two rows, b and c one each, c and d are gone.
func some(t *testing.T) *Store {
	t.Helper()
	return made(t, batch(row("a", "1"), row("c", "2")), batch(row("b", "3"), gone("c")), batch(row("a", "4"), gone("d")))
}

func has(t *testing.T, s *Store, now int64, n int) {
	t.Helper()
	if s.Now() != now || s.Len() != n {
		t.Errorf("Now is %d, Len is %d, not %d, %d", s.Now(), s.Len(), now, n)
	}
}

// sees holds what is there of a key at a number against what should be.
func sees(t *testing.T, s *Store, at int64, key, want string) {
	t.Helper()
	if got, ok := s.Get(at, key); string(got) != want || !ok {
		t.Errorf("Get(%d, %q) is %q, %v, not %q", at, key, got, ok, want)
	}
}

func seesNone(t *testing.T, s *Store, at int64, l ...string) {
	t.Helper()
	for _, key := range l {
		if got, ok := s.Get(at, key); len(got) != 0 || ok {
			t.Errorf("Get(%d, %q) is %q, %v, not none", at, key, got, ok)
		}
	}
}

func last(t *testing.T, s *Store, key string, want int64) {
	t.Helper()
	if got := s.Last(key); got != want {
		t.Errorf("Last(%q) is %d, not %d", key, got, want)
	}
}

// told writes items as one text.
func told(l []Item) string {
	var b strings.Builder
	for _, x := range l {
		b.WriteString(strconv.Quote(x.Key) + "=" + string(x.Row) + " ")
	}
	return strings.TrimSuffix(b.String(), " ")
}

func scans(t *testing.T, s *Store, at int64, from, to string, most int, want string) {
	t.Helper()
	if got := told(s.Scan(at, from, to, most)); got != want {
		t.Errorf("Scan(%d, %q, %q, %d) is %s, not %s", at, from, to, most, got, want)
	}
}

func trims(t *testing.T, s *Store, below int64, want int) {
	t.Helper()
	if got := s.Trim(below); got != want {
		t.Errorf("Trim(%d) is %d, not %d", below, got, want)
	}
}

// edges are numbers at which nothing was written.
var edges = []int64{math.MinInt64, -1, 0, 1, math.MaxInt64}

// P13.1, P13.2: a store into which nothing was written.
func TestNew(t *testing.T) {
	s := New()
	if s == nil {
		t.Fatal("New is nil")
	}
	has(t, s, 0, 0)
	for _, at := range edges {
		seesNone(t, s, at, "", "a")
		scans(t, s, at, "", "", 9, "")
		trims(t, s, at, 0)
	}
	last(t, s, "a", 0)
	last(t, s, "", 0)
	has(t, s, 0, 0)
}

// P13.1: Apply takes a batch that is Right and the next one, and counts it.
func TestApply(t *testing.T) {
	s := New()
	applies(t, s, 1, api.OK, row("b", "1"))
	has(t, s, 1, 1)
	applies(t, s, 2, api.OK, row("a", ""), row("b", "2"), gone("c"))
	has(t, s, 2, 4)
	applies(t, s, 3, api.OK, gone("b"))
	has(t, s, 3, 5)
	seesNone(t, s, 1, "a", "c")
	sees(t, s, 1, "b", "1")
	sees(t, s, 2, "a", "")
	sees(t, s, 2, "b", "2")
	seesNone(t, s, 2, "c")
	sees(t, s, 3, "a", "")
	seesNone(t, s, 3, "b", "c")
	last(t, s, "a", 2)
	last(t, s, "b", 3)
	last(t, s, "c", 2)
}

// P13.1: each way of not being Right, and of not being the next one, is turned down and changes nothing.
func TestApplyTurnedDown(t *testing.T) {
	many := []api.Write{}
	for i := range api.MaxWrites + 1 {
		many = append(many, row(strconv.Itoa(100+i), "x"))
	}
	long := strings.Repeat("k", 4001)
	for _, x := range []struct {
		name string
		n    int64
		e    api.Errno
		l    []api.Write
	}{
		{"no writes", 4, api.ErrForm, nil},
		{"an empty key", 4, api.ErrForm, batch(row("", "x"))},
		{"a key twice", 4, api.ErrForm, batch(row("e", "x"), row("e", "y"))},
		{"keys that don't rise", 4, api.ErrForm, batch(row("f", "x"), row("e", "y"))},
		{"a long key", 4, api.ErrForm, batch(row("a", "x"), row(long, "x"))},
		{"a long row", 4, api.ErrForm, batch(row("a", "x"), row("e", long))},
		{"gone with a row", 4, api.ErrForm, batch(row("a", "x"), api.Write{Key: "e", Row: []byte("x"), Gone: true})},
		{"too many writes", 4, api.ErrForm, many},
		{"number 0", 0, api.ErrForm, batch(row("e", "x"))},
		{"number -1", -1, api.ErrForm, batch(row("e", "x"))},
		{"the least number", math.MinInt64, api.ErrForm, batch(row("e", "x"))},
		{"not Right and not the next", 9, api.ErrForm, batch(row("f", "x"), row("e", "y"))},
		{"the first", 1, api.ErrArg, batch(row("e", "x"))},
		{"the last again", 3, api.ErrArg, batch(row("e", "x"))},
		{"one is left out", 5, api.ErrArg, batch(row("a", "x"), row("e", "x"))},
		{"the greatest number", math.MaxInt64, api.ErrArg, batch(row("e", "x"))},
	} {
		s := some(t)
		if e := s.Apply(api.Batch{N: x.n, Writes: x.l}); e != x.e {
			t.Errorf("%s: answers %d, not %d", x.name, int(e), int(x.e))
		}
		has(t, s, 3, 6)
		for at := int64(3); at <= 5; at++ {
			scans(t, s, at, "", "", 99, `"a"=4 "b"=3`)
		}
		last(t, s, "a", 3)
		last(t, s, "e", 0)
		applies(t, s, 4, api.OK, row("e", "5"))
		sees(t, s, 4, "e", "5")
	}
}

// P13.1: a new store takes the batch 1 alone.
func TestApplyFirst(t *testing.T) {
	for _, n := range []int64{2, 3, math.MaxInt64} {
		s := New()
		applies(t, s, n, api.ErrArg, row("a", "1"))
		has(t, s, 0, 0)
		applies(t, s, 1, api.OK, row("a", "1"))
		has(t, s, 1, 1)
	}
}

// P13.1: a batch of as many writes, and as long ones, as may be is applied whole.
func TestApplyGreatest(t *testing.T) {
	l := []api.Write{}
	for i := range api.MaxWrites {
		l = append(l, row(strconv.Itoa(100+i), strconv.Itoa(i)))
	}
	s := made(t, l, batch(row(strings.Repeat("k", 4000), strings.Repeat("r", 4000))))
	has(t, s, 2, api.MaxWrites+1)
	for i, w := range l {
		sees(t, s, 1, w.Key, strconv.Itoa(i))
		last(t, s, w.Key, 1)
	}
	sees(t, s, 2, strings.Repeat("k", 4000), strings.Repeat("r", 4000))
}

// P13.1: Get and Last are the key's own, at each number.
func TestGet(t *testing.T) {
	s := some(t)
	for at, want := range []string{"----", "1-2-", "13--", "43--", "43--"} {
		for i, key := range []string{"a", "b", "c", "d"} {
			if w := want[i : i+1]; w == "-" {
				seesNone(t, s, int64(at), key)
			} else {
				sees(t, s, int64(at), key, w)
			}
		}
		seesNone(t, s, int64(at), "", "A", "aa", "a\x00", "e", "\xff")
	}
	for _, key := range []string{"a", "b", "c", "d", "z"} {
		seesNone(t, s, -1, key)
		seesNone(t, s, math.MinInt64, key)
	}
	sees(t, s, math.MaxInt64, "a", "4")
	sees(t, s, math.MaxInt64, "b", "3")
	seesNone(t, s, math.MaxInt64, "c", "d")
	for key, want := range map[string]int64{"a": 3, "b": 2, "c": 2, "d": 3, "": 0, "A": 0, "aa": 0, "z": 0} {
		last(t, s, key, want)
	}
}

// P13.1: Scan goes from a key on, itself too, to below another one, or without a bound.
func TestScanBounds(t *testing.T) {
	s := made(t, batch(row("a", "1"), row("b", "2"), row("ba", "3"), row("c", "4")))
	for _, x := range []struct{ from, to, want string }{
		{"", "", `"a"=1 "b"=2 "ba"=3 "c"=4`},
		{"a", "", `"a"=1 "b"=2 "ba"=3 "c"=4`},
		{"a\x00", "", `"b"=2 "ba"=3 "c"=4`},
		{"b", "", `"b"=2 "ba"=3 "c"=4`},
		{"b\x00", "", `"ba"=3 "c"=4`},
		{"c", "", `"c"=4`},
		{"c\x00", "", ""},
		{"\xff", "", ""},
		{"", "a", ""},
		{"", "a\x00", `"a"=1`},
		{"", "b", `"a"=1`},
		{"", "ba", `"a"=1 "b"=2`},
		{"", "c", `"a"=1 "b"=2 "ba"=3`},
		{"", "\xff", `"a"=1 "b"=2 "ba"=3 "c"=4`},
		{"b", "c", `"b"=2 "ba"=3`},
		{"b", "b", ""},
		{"c", "b", ""},
		{"z", "a", ""},
		{"aa", "bz", `"b"=2 "ba"=3`},
	} {
		scans(t, s, 1, x.from, x.to, 99, x.want)
		scans(t, s, 0, x.from, x.to, 99, "")
	}
}

// P13.1: Scan tells the first most of those that are there; what is gone, or isn't there yet, isn't counted.
func TestScanMost(t *testing.T) {
	s := made(t, batch(row("a", "1"), row("c", "2"), row("e", "3")), batch(gone("a"), row("b", "4"), row("f", "")), batch(row("a", "5"), gone("c"), gone("d")))
	for _, x := range []struct {
		at   int64
		most int
		want string
	}{
		{1, math.MinInt, ""}, {1, -1, ""}, {1, 0, ""}, {1, 1, `"a"=1`}, {1, 2, `"a"=1 "c"=2`}, {1, 3, `"a"=1 "c"=2 "e"=3`}, {1, math.MaxInt, `"a"=1 "c"=2 "e"=3`},
		{2, -1, ""}, {2, 0, ""}, {2, 1, `"b"=4`}, {2, 3, `"b"=4 "c"=2 "e"=3`}, {2, 4, `"b"=4 "c"=2 "e"=3 "f"=`}, {2, 5, `"b"=4 "c"=2 "e"=3 "f"=`},
		{3, 2, `"a"=5 "b"=4`}, {3, 3, `"a"=5 "b"=4 "e"=3`}, {3, 4, `"a"=5 "b"=4 "e"=3 "f"=`},
		{4, 9, `"a"=5 "b"=4 "e"=3 "f"=`}, {math.MaxInt64, 1, `"a"=5`}, {0, 9, ""}, {-1, 9, ""}, {math.MinInt64, 9, ""},
	} {
		scans(t, s, x.at, "", "", x.most, x.want)
	}
	scans(t, s, 3, "b", "f", 1, `"b"=4`)
	scans(t, s, 3, "c", "f", 1, `"e"=3`)
	scans(t, s, 3, "c", "f", 2, `"e"=3`)
}

// P13.1: keys rise by their bytes, in whatever order they were written.
func TestScanRises(t *testing.T) {
	keys := []string{"\xff", "b", "\x00", "a\xff", "ab", "a", "\x00\x00", "Z", "é", "a\x00", "\x80"}
	s := New()
	for i, key := range keys {
		applies(t, s, int64(i+1), api.OK, row(key, "x"))
	}
	slices.Sort(keys)
	want := []Item{}
	for _, key := range keys {
		want = append(want, Item{Key: key, Row: []byte("x")})
	}
	scans(t, s, int64(len(keys)), "", "", len(keys), told(want))
	scans(t, s, int64(len(keys)), keys[2], keys[7], len(keys), told(want[2:7]))
}

// P13.2: Trim is that of all chains, and tells how many versions were let go in all.
func TestTrim(t *testing.T) {
	for _, x := range []struct {
		below int64
		n     int
	}{
		{math.MinInt64, 0}, {-1, 0}, {0, 0}, {1, 0}, {2, 2}, {3, 4}, {4, 4}, {math.MaxInt64, 4},
	} {
		s := some(t)
		trims(t, s, x.below, x.n)
		has(t, s, 3, 6-x.n)
		trims(t, s, x.below, 0)
		has(t, s, 3, 6-x.n)
		whole := some(t)
		for at := max(x.below, -1); at < 6; at++ {
			scans(t, s, at, "", "", 9, told(whole.Scan(at, "", "", 9)))
		}
		for _, key := range []string{"a", "b", "c", "d", "e"} {
			last(t, s, key, whole.Last(key))
		}
	}
}

// P13.2: who asks for less than a Trim's number sees no more than what was left.
func TestTrimLetsGo(t *testing.T) {
	s := some(t)
	trims(t, s, 2, 2)
	scans(t, s, 1, "", "", 9, `"a"=1`)
	trims(t, s, 3, 2)
	scans(t, s, 2, "", "", 9, `"b"=3`)
	scans(t, s, 1, "", "", 9, "")
	scans(t, s, 3, "", "", 9, `"a"=4 "b"=3`)
	has(t, s, 3, 2)
}

// P13.2: a chain without versions stays: its Last is known, and its key may be written again.
func TestTrimKeepsLast(t *testing.T) {
	s := made(t, batch(row("a", "1")), batch(gone("a"), gone("b")))
	trims(t, s, 2, 3)
	has(t, s, 2, 0)
	last(t, s, "a", 2)
	last(t, s, "b", 2)
	seesNone(t, s, 2, "a", "b")
	scans(t, s, 9, "", "", 9, "")
	applies(t, s, 2, api.ErrArg, row("a", "x"))
	applies(t, s, 3, api.OK, row("a", "3"))
	has(t, s, 3, 1)
	seesNone(t, s, 2, "a")
	sees(t, s, 3, "a", "3")
	last(t, s, "a", 3)
	last(t, s, "b", 2)
}

// P13.2, P1: a nil store, whatever the batch.
func TestNil(t *testing.T) {
	var s *Store
	for _, n := range edges {
		applies(t, s, n, api.ErrNone)
		applies(t, s, n, api.ErrNone, row("a", "1"))
		applies(t, s, n, api.ErrNone, row("", "1"))
		seesNone(t, s, n, "", "a")
		scans(t, s, n, "", "", 9, "")
		scans(t, s, n, "a", "b", -1, "")
		trims(t, s, n, 0)
		last(t, s, "a", 0)
		has(t, s, 0, 0)
	}
}

// Nothing is shared: neither what is handed in nor what is answered is the store's own, and none is written into.
func TestSharesNothing(t *testing.T) {
	p := []byte("ab..")
	writes := []api.Write{{Key: "a", Row: p[:2]}, {Key: "b", Row: p[:3]}}
	s := New()
	applies(t, s, 1, api.OK, writes...)
	if string(p) != "ab.." || writes[0].Key != "a" || string(writes[1].Row) != "ab." {
		t.Errorf("written into: %q, %v", p, writes)
	}
	clear(p)
	clear(writes)
	scans(t, s, 1, "", "", 9, `"a"=ab "b"=ab.`)
	one, _ := s.Get(1, "a")
	two, _ := s.Get(1, "a")
	clear(one[:cap(one)])
	if string(two) != "ab" {
		t.Errorf("two answers share: %q", two)
	}
	l, m := s.Scan(1, "", "", 9), s.Scan(1, "", "", 9)
	_ = append(l[0].Row, "zzzz"...)
	clear(l[0].Row)
	if string(l[1].Row) != "ab." || told(m) != `"a"=ab "b"=ab.` {
		t.Errorf("two answers share: %s, %s", told(l), told(m))
	}
	clear(l[:cap(l)])
	scans(t, s, 1, "", "", 9, `"a"=ab "b"=ab.`)
	applies(t, s, 2, api.OK, row("a", "cd"), gone("b"))
	s.Trim(2)
	if told(m) != `"a"=ab "b"=ab.` {
		t.Errorf("an answer has changed: %s", told(m))
	}
}

// Nothing is shared: two stores are two.
func TestTwoStores(t *testing.T) {
	a, b := New(), New()
	applies(t, a, 1, api.OK, row("x", "1"))
	applies(t, b, 1, api.OK, row("y", "2"))
	applies(t, a, 2, api.OK, gone("x"))
	a.Trim(9)
	has(t, a, 2, 0)
	has(t, b, 1, 1)
	scans(t, b, 2, "", "", 9, `"y"=2`)
	last(t, b, "x", 0)
}

// version is a write that a plain store was told, and whether it was let go.
type version struct {
	at    int64
	w     api.Write
	letGo bool
}

// plain is a store as the chapters tell it: all versions of all keys in one heap, in the order in which they came.
type plain struct {
	all []version
	now int64
}

func (m *plain) apply(l []api.Write) {
	m.now++
	for _, w := range l {
		m.all = append(m.all, version{at: m.now, w: w})
	}
}

// newest is the place of a key's newest version that isn't above at, or -1.
func (m *plain) newest(at int64, key string) int {
	found := -1
	for i, v := range m.all {
		if !v.letGo && v.w.Key == key && v.at <= at {
			found = i
		}
	}
	return found
}

func (m *plain) get(at int64, key string) (string, bool) {
	i := m.newest(at, key)
	if i < 0 || m.all[i].w.Gone {
		return "", false
	}
	return string(m.all[i].w.Row), true
}

func (m *plain) last(key string) int64 {
	n := int64(0)
	for _, v := range m.all {
		if v.w.Key == key {
			n = v.at
		}
	}
	return n
}

// walkKeys are those that a walk writes, and one that it doesn't, rising.
var walkKeys = []string{"a", "b", "c"}

func (m *plain) scan(at int64, from, to string, most int) string {
	l := []Item{}
	for _, key := range walkKeys {
		row, ok := m.get(at, key)
		if ok && key >= from && (to == "" || key < to) && len(l) < most {
			l = append(l, Item{Key: key, Row: []byte(row)})
		}
	}
	return told(l)
}

func (m *plain) trim(below int64) int {
	n := 0
	newest := map[string]int{}
	for _, key := range walkKeys {
		newest[key] = m.newest(below, key)
	}
	for k := range m.all {
		v := &m.all[k]
		i := newest[v.w.Key]
		if !v.letGo && (k < i || k == i && v.w.Gone) {
			v.letGo = true
			n++
		}
	}
	return n
}

func (m *plain) len() int {
	n := 0
	for _, v := range m.all {
		if !v.letGo {
			n++
		}
	}
	return n
}

// twin is a call, of a store and of a plain one, and whether both answer the same.
type twin struct {
	name string
	same func(s *Store, m *plain) bool
}

// twins: Apply of each batch of one or two keys, each with a row or gone; Trim of all that decides something.
func twins() []twin {
	var l []twin
	for a := range 3 {
		for b := range 3 {
			writes := append(choice("a", a), choice("b", b)...)
			if len(writes) == 0 {
				continue
			}
			l = append(l, twin{"Apply " + strconv.Itoa(a) + strconv.Itoa(b), func(s *Store, m *plain) bool {
				m.apply(numbered(writes, m.now))
				return s.Apply(api.Batch{N: m.now, Writes: numbered(writes, m.now-1)}) == api.OK
			}})
		}
	}
	for below := range int64(5) {
		l = append(l, twin{"Trim " + strconv.FormatInt(below, 10), func(s *Store, m *plain) bool {
			return s.Trim(below) == m.trim(below)
		}})
	}
	return l
}

// choice is no write of a key, a row, or that it is gone.
func choice(key string, i int) []api.Write {
	return [][]api.Write{nil, {row(key, "")}, {gone(key)}}[i]
}

// numbered lays a number into each row, so that no two rows of a key are alike.
func numbered(l []api.Write, n int64) []api.Write {
	out := []api.Write{}
	for _, w := range l {
		if !w.Gone {
			w.Row = []byte(strconv.FormatInt(n, 10))
		}
		out = append(out, w)
	}
	return out
}

// alike holds all that a store tells against a plain one.
func alike(s *Store, m *plain) bool {
	for at := int64(-1); at <= m.now+1; at++ {
		for _, from := range []string{"", "a", "b", "c"} {
			for _, to := range []string{"", "a", "b", "c"} {
				for most := -1; most <= 2; most++ {
					if told(s.Scan(at, from, to, most)) != m.scan(at, from, to, most) {
						return false
					}
				}
			}
		}
		for _, key := range walkKeys {
			want, there := m.get(at, key)
			if got, ok := s.Get(at, key); string(got) != want || ok != there || s.Last(key) != m.last(key) {
				return false
			}
		}
	}
	return s.Now() == m.now && s.Len() == m.len()
}

// P13.1, P13.2: whatever is done, up to four calls of them all, a store is as the chapters tell it.
func TestAllWalks(t *testing.T) {
	const deep = 4
	l := twins()
	all := 1
	for range deep {
		all *= len(l)
	}
	for n := range all {
		s, m, path := New(), &plain{}, ""
		for k, i := 0, n; k < deep; k, i = k+1, i/len(l) {
			x := l[i%len(l)]
			path += ", " + x.name
			if !x.same(s, m) {
				t.Fatalf("New%s: not the same", path)
			}
		}
		if !alike(s, m) {
			t.Fatalf("New%s: Now %d, Len %d, not alike", path, s.Now(), s.Len())
		}
	}
}

// P13.1: a store of many keys, that were written in no order, tells each.
func TestManyKeys(t *testing.T) {
	const many = 3000
	s := New()
	for i := range int64(many) {
		key := strconv.FormatInt(100000+i*7919%many, 10)
		applies(t, s, i+1, api.OK, row(key, key))
	}
	has(t, s, many, many)
	l := s.Scan(many, "", "", many+1)
	if len(l) != many {
		t.Fatalf("%d keys, not %d", len(l), many)
	}
	for i, x := range l {
		if want := strconv.Itoa(100000 + i); x.Key != want || string(x.Row) != want {
			t.Fatalf("the %d-th is %q, %q", i, x.Key, x.Row)
		}
	}
}

// The chapter's example.
func TestExample(t *testing.T) {
	s := made(t, batch(row("a", "1")))
	has(t, s, 1, 1)
	seesNone(t, s, 0, "a")
}
