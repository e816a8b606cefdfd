package chain

import (
	"math"
	"strconv"
	"strings"
	"testing"

	"countinghouse/api"
)

// put is a call of Put, and what it answers.
type put struct {
	at   int64
	row  string
	gone bool
	e    api.Errno
}

func puts(t *testing.T, c *Chain, l ...put) {
	t.Helper()
	for i, p := range l {
		if e := c.Put(p.at, []byte(p.row), p.gone); e != p.e {
			t.Errorf("put %d, of %d: answers %d, not %d", i, p.at, int(e), int(p.e))
		}
	}
}

// made is a chain with those versions.
func made(t *testing.T, l ...put) *Chain {
	t.Helper()
	c := New()
	puts(t, c, l...)
	return c
}

func row(at int64, row string) put { return put{at, row, false, api.OK} }
func gone(at int64) put            { return put{at, "", true, api.OK} }

// sees holds what is there at a number against what should be.
func sees(t *testing.T, c *Chain, at int64, want string) {
	t.Helper()
	if got, ok := c.Get(at); string(got) != want || !ok {
		t.Errorf("Get(%d) is %q, %v, not %q", at, got, ok, want)
	}
}

// seesNone holds a number at which nothing is there.
func seesNone(t *testing.T, c *Chain, l ...int64) {
	t.Helper()
	for _, at := range l {
		if got, ok := c.Get(at); len(got) != 0 || ok {
			t.Errorf("Get(%d) is %q, %v, not none", at, got, ok)
		}
	}
}

func has(t *testing.T, c *Chain, n int, last int64) {
	t.Helper()
	if c.Len() != n || c.Last() != last {
		t.Errorf("Len is %d, Last is %d, not %d, %d", c.Len(), c.Last(), n, last)
	}
}

func trims(t *testing.T, c *Chain, below int64, want int) {
	t.Helper()
	if got := c.Trim(below); got != want {
		t.Errorf("Trim(%d) is %d, not %d", below, got, want)
	}
}

// P12.1: a chain without versions.
func TestNew(t *testing.T) {
	c := New()
	if c == nil {
		t.Fatal("New is nil")
	}
	has(t, c, 0, 0)
	seesNone(t, c, math.MinInt64, -1, 0, 1, math.MaxInt64)
	trims(t, c, math.MaxInt64, 0)
	has(t, c, 0, 0)
}

// P12.1: a number is above all that the chain ever had, and 0; a Put that is turned down changes nothing.
func TestPut(t *testing.T) {
	c := New()
	for _, at := range []int64{0, -1, math.MinInt64} {
		puts(t, c, put{at, "x", false, api.ErrArg}, put{at, "", true, api.ErrArg})
	}
	has(t, c, 0, 0)
	puts(t, c, row(3, "a"))
	has(t, c, 1, 3)
	for _, at := range []int64{3, 2, 1, 0, -1, -4, math.MinInt64} {
		puts(t, c, put{at, "x", false, api.ErrArg}, put{at, "", true, api.ErrArg})
	}
	has(t, c, 1, 3)
	seesNone(t, c, 2)
	sees(t, c, 3, "a")
	sees(t, c, math.MaxInt64, "a")
	puts(t, c, row(4, "b"), gone(9), put{9, "x", false, api.ErrArg}, put{5, "x", false, api.ErrArg})
	has(t, c, 3, 9)
	puts(t, c, row(math.MaxInt64, "c"), put{math.MaxInt64, "x", false, api.ErrArg}, put{math.MinInt64, "x", false, api.ErrArg})
	has(t, c, 4, math.MaxInt64)
	sees(t, c, math.MaxInt64, "c")
	seesNone(t, c, math.MaxInt64-1)
}

// P12.1: the first number may be any above 0.
func TestPutFirst(t *testing.T) {
	for _, at := range []int64{1, 2, 100, 1 << 32, math.MaxInt64 - 1, math.MaxInt64} {
		c := made(t, row(at, "a"))
		has(t, c, 1, at)
		seesNone(t, c, math.MinInt64, 0, at-1)
		sees(t, c, at, "a")
		sees(t, c, math.MaxInt64, "a")
	}
}

// P12.1: Get is the newest version whose number isn't above what is asked for, unless it is gone.
func TestGet(t *testing.T) {
	c := made(t, row(2, "a"), row(3, "b"), gone(5), gone(6), row(8, ""), row(12, "d"))
	for at, want := range []string{"-", "-", "a", "b", "b", "-", "-", "-", "", "", "", "", "d", "d"} {
		if want == "-" {
			seesNone(t, c, int64(at))
		} else {
			sees(t, c, int64(at), want)
		}
	}
	seesNone(t, c, -1, math.MinInt64)
	sees(t, c, math.MaxInt64, "d")
	has(t, c, 6, 12)
	puts(t, c, gone(13))
	sees(t, c, 12, "d")
	seesNone(t, c, 13, math.MaxInt64)
}

// P12.1: a row is there byte by byte, of whatever length, and a row of nothing is a row.
func TestRows(t *testing.T) {
	for _, s := range []string{"", "\x00", "\xff\x00\x80", strings.Repeat("long", 1<<14)} {
		c := made(t, row(1, s))
		sees(t, c, 1, s)
		sees(t, c, 2, s)
	}
	c := New()
	if e := c.Put(1, nil, false); e != api.OK {
		t.Errorf("Put of a nil row answers %d", int(e))
	}
	sees(t, c, 1, "")
}

// P12.1: of a version that is gone no row is told, whatever was handed in.
func TestGoneWithRow(t *testing.T) {
	c := made(t, put{1, "x", true, api.OK}, row(2, "a"), put{3, "y", true, api.OK})
	seesNone(t, c, 1, 3, 4)
	sees(t, c, 2, "a")
	has(t, c, 3, 3)
	trims(t, c, 1, 1)
	trims(t, c, 3, 2)
	has(t, c, 0, 3)
}

// P12.2: what is below the newest one that isn't above below is let go, and that one, too, if it is gone.
func TestTrim(t *testing.T) {
	l := []put{row(2, "a"), row(3, "b"), gone(5), gone(6), row(8, "c"), gone(12)}
	for _, x := range []struct {
		below int64
		n     int
	}{
		{math.MinInt64, 0}, {-1, 0}, {0, 0}, {1, 0}, {2, 0}, {3, 1}, {4, 1}, {5, 3}, {6, 4}, {7, 4}, {8, 4}, {9, 4}, {11, 4}, {12, 6}, {13, 6}, {math.MaxInt64, 6},
	} {
		c := made(t, l...)
		trims(t, c, x.below, x.n)
		has(t, c, len(l)-x.n, 12)
		trims(t, c, x.below, 0)
		has(t, c, len(l)-x.n, 12)
		whole := made(t, l...)
		for _, at := range []int64{math.MinInt64, -1, 0, 1, 2, 3, 4, 5, 6, 7, 8, 9, 11, 12, 13, math.MaxInt64} {
			want, there := whole.Get(at)
			if got, ok := c.Get(at); at >= x.below && (string(got) != string(want) || ok != there) {
				t.Errorf("Trim(%d): Get(%d) is %q, %v, not %q, %v", x.below, at, got, ok, want, there)
			}
		}
	}
}

// P12.2: what was let go isn't seen below any more, and isn't counted.
func TestTrimLetsGo(t *testing.T) {
	c := made(t, row(1, "a"), row(2, "b"), row(4, "c"), gone(5))
	trims(t, c, 3, 1)
	seesNone(t, c, 1)
	sees(t, c, 2, "b")
	sees(t, c, 3, "b")
	trims(t, c, 4, 1)
	seesNone(t, c, 1, 2, 3)
	sees(t, c, 4, "c")
	trims(t, c, 5, 2)
	seesNone(t, c, 1, 2, 3, 4, 5, math.MaxInt64)
	has(t, c, 0, 5)
}

// P12.1: the numbers that a chain had once stay taken when their versions are let go.
func TestPutBehindTrim(t *testing.T) {
	c := made(t, row(1, "a"), gone(7))
	trims(t, c, 7, 2)
	has(t, c, 0, 7)
	puts(t, c, put{7, "x", false, api.ErrArg}, put{1, "x", false, api.ErrArg}, put{6, "x", true, api.ErrArg})
	has(t, c, 0, 7)
	puts(t, c, row(8, "b"))
	has(t, c, 1, 8)
	seesNone(t, c, 7)
	sees(t, c, 8, "b")
	trims(t, c, 100, 0)
	sees(t, c, 8, "b")
}

// P12.2, P1: a nil chain.
func TestNil(t *testing.T) {
	var c *Chain
	for _, at := range []int64{math.MinInt64, -1, 0, 1, math.MaxInt64} {
		puts(t, c, put{at, "x", false, api.ErrNone}, put{at, "", true, api.ErrNone})
		seesNone(t, c, at)
		trims(t, c, at, 0)
		has(t, c, 0, 0)
	}
	if e := c.Put(1, nil, false); e != api.ErrNone {
		t.Errorf("Put of a nil row answers %d", int(e))
	}
}

// Nothing is shared: neither a row that is handed in nor one that is answered is the chain's own, and none is written into.
func TestSharesNothing(t *testing.T) {
	c := New()
	p := []byte("ab..")
	c.Put(1, p[:2], false)
	c.Put(2, p[:2], true)
	c.Put(3, p[:3], false)
	if string(p) != "ab.." {
		t.Errorf("written into: %q", p)
	}
	clear(p)
	sees(t, c, 1, "ab")
	sees(t, c, 3, "ab.")
	a, _ := c.Get(1)
	b, _ := c.Get(1)
	clear(a[:cap(a)])
	if string(b) != "ab" {
		t.Errorf("two answers share: %q", b)
	}
	sees(t, c, 1, "ab")
	_ = append(b, "zzzz"...)
	sees(t, c, 1, "ab")
	sees(t, c, 3, "ab.")
	kept, _ := c.Get(1)
	c.Trim(3)
	c.Put(4, []byte("cd"), false)
	if string(kept) != "ab" {
		t.Errorf("an answer has changed: %q", kept)
	}
}

// No row is kept that nobody can ask for: of what is gone, or was let go.
func TestKeepsNoMore(t *testing.T) {
	c := made(t, row(1, "a"), row(2, "b"), put{3, "x", true, api.OK}, row(4, "c"))
	c.Trim(4)
	has(t, c, 1, 4)
	puts(t, c, put{5, "y", true, api.OK})
	kept := ""
	for _, v := range c.versions[:cap(c.versions)] {
		kept += string(v.row)
	}
	if kept != "c" {
		t.Errorf("rows that are kept: %q", kept)
	}
}

// Nothing is shared: two chains are two.
func TestTwoChains(t *testing.T) {
	p := []byte("ab")
	a, b := New(), New()
	a.Put(1, p, false)
	b.Put(2, p, false)
	b.Trim(5)
	a.Put(3, nil, true)
	has(t, a, 2, 3)
	has(t, b, 1, 2)
	sees(t, b, 3, "ab")
}

// plain is a chain as the chapter tells it: all that it was told, and which of it was let go.
type plain struct {
	told []told
	last int64
}

type told struct {
	at    int64
	row   string
	gone  bool
	letGo bool
}

func (m *plain) put(at int64, row string, gone bool) api.Errno {
	if at <= 0 {
		return api.ErrArg
	}
	for _, v := range m.told {
		if at <= v.at {
			return api.ErrArg
		}
	}
	m.told = append(m.told, told{at: at, row: row, gone: gone})
	m.last = at
	return api.OK
}

// newest is the place of the newest version that isn't above at, or -1.
func (m *plain) newest(at int64) int {
	found := -1
	for i, v := range m.told {
		if !v.letGo && v.at <= at {
			found = i
		}
	}
	return found
}

func (m *plain) get(at int64) (string, bool) {
	i := m.newest(at)
	if i < 0 || m.told[i].gone {
		return "", false
	}
	return m.told[i].row, true
}

func (m *plain) trim(below int64) int {
	i := m.newest(below)
	n := 0
	for k := range m.told {
		v := &m.told[k]
		if !v.letGo && (k < i || k == i && v.gone) {
			v.letGo = true
			n++
		}
	}
	return n
}

func (m *plain) len() int {
	n := 0
	for _, v := range m.told {
		if !v.letGo {
			n++
		}
	}
	return n
}

// twin is a call, of a chain and of a plain one, and whether both answer the same.
type twin struct {
	name string
	same func(c *Chain, m *plain) bool
}

// twins: Put of a number by what is greatest so far, each with a row, without one, and gone; Trim of all that decides something.
func twins() []twin {
	var l []twin
	for _, step := range []int64{0, 1, 2} {
		for _, s := range []string{"a", "", "-"} {
			name := "Put +" + strconv.FormatInt(step, 10) + " " + s
			l = append(l, twin{name, func(c *Chain, m *plain) bool {
				at := m.last + step
				return c.Put(at, []byte(s), s == "-") == m.put(at, s, s == "-")
			}})
		}
	}
	for below := range int64(8) {
		l = append(l, twin{"Trim " + strconv.FormatInt(below, 10), func(c *Chain, m *plain) bool {
			return c.Trim(below) == m.trim(below)
		}})
	}
	return l
}

// alike holds all that a chain tells against a plain one.
func alike(c *Chain, m *plain) bool {
	for at := int64(-1); at <= m.last+2; at++ {
		want, there := m.get(at)
		if got, ok := c.Get(at); string(got) != want || ok != there {
			return false
		}
	}
	return c.Len() == m.len() && c.Last() == m.last
}

// P12.1, P12.2: whatever is done, up to five calls of them all, a chain is as the chapter tells it.
func TestAllWalks(t *testing.T) {
	const deep = 5
	l := twins()
	all := 1
	for range deep {
		all *= len(l)
	}
	for n := range all {
		c, m, path := New(), &plain{}, ""
		for k, i := 0, n; k < deep; k, i = k+1, i/len(l) {
			x := l[i%len(l)]
			path += ", " + x.name
			if !x.same(c, m) || !alike(c, m) {
				t.Fatalf("New%s: Len %d, Last %d", path, c.Len(), c.Last())
			}
		}
	}
}

// P12.2: who asks for below, or above, sees behind a Trim what was seen ahead of it, in a chain of many versions.
func TestTrimOfMany(t *testing.T) {
	const many = 200
	for below := int64(-1); below <= 3*many+3; below += 7 {
		c, whole := New(), New()
		for i := int64(1); i <= many; i++ {
			s := []byte(strconv.FormatInt(i, 10))
			c.Put(3*i, s, i%5 == 0)
			whole.Put(3*i, s, i%5 == 0)
		}
		n := c.Trim(below)
		has(t, c, many-n, 3*many)
		for at := below; at <= 3*many+3; at++ {
			want, there := whole.Get(at)
			if got, ok := c.Get(at); string(got) != string(want) || ok != there {
				t.Fatalf("Trim(%d): Get(%d) is %q, %v, not %q, %v", below, at, got, ok, want, there)
			}
		}
	}
}

// The chapter's example.
func TestExample(t *testing.T) {
	c := made(t, row(1, "a"), gone(3))
	sees(t, c, 2, "a")
	seesNone(t, c, 3)
	trims(t, c, 3, 2)
}
