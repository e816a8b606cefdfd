package disk

import (
	"math"
	"strconv"
	"strings"
	"testing"

	"countinghouse/api"
)

// step is a call, and what its disk is like behind it.
type step struct {
	name string
	do   func(d *Disk) api.Errno
	e    api.Errno
	held string
	safe int
}

func appends(p string) func(d *Disk) api.Errno {
	return func(d *Disk) api.Errno { return d.Append([]byte(p)) }
}

func cuts(n int) func(d *Disk) api.Errno {
	return func(d *Disk) api.Errno { return d.Cut(n) }
}

func fails(n int) func(d *Disk) api.Errno {
	return func(d *Disk) api.Errno { d.Fail(n); return api.OK }
}

func crashes(keep int) func(d *Disk) api.Errno {
	return func(d *Disk) api.Errno { d.Crash(keep); return api.OK }
}

// see holds a disk against what it should be.
func see(t *testing.T, where string, d *Disk, held string, safe int) {
	t.Helper()
	if got := string(d.Read()); got != held {
		t.Errorf("%s: Read is %q, not %q", where, got, held)
	}
	if got := d.Safe(); got != safe {
		t.Errorf("%s: Safe is %d, not %d", where, got, safe)
	}
}

// walk does steps one behind the other.
func walk(t *testing.T, d *Disk, l []step) {
	t.Helper()
	for i, s := range l {
		where := "step " + strconv.Itoa(i) + ", " + s.name
		if e := s.do(d); e != s.e {
			t.Errorf("%s: answers %d, not %d", where, int(e), int(s.e))
		}
		see(t, where, d, s.held, s.safe)
	}
}

// P7.1: the bytes that a disk is made with are all safe.
func TestNew(t *testing.T) {
	for _, p := range []string{"", "a", "ab", "\x00", "\xff\x00\x80", strings.Repeat("long", 1<<16)} {
		d := New([]byte(p))
		see(t, "New", d, p, len(p))
		d.Crash(0)
		see(t, "New, Crash", d, p, len(p))
	}
	see(t, "New of nil", New(nil), "", 0)
	if New(nil) == nil {
		t.Error("New of nil is nil")
	}
}

// P7.1: what is appended stands behind, and is safe when it was synced.
func TestAppendSync(t *testing.T) {
	walk(t, New([]byte("ab")), []step{
		{"Append cd", appends("cd"), api.OK, "abcd", 2},
		{"Append nothing", appends(""), api.OK, "abcd", 2},
		{"Append 00 ff", appends("\x00\xff"), api.OK, "abcd\x00\xff", 2},
		{"Sync", (*Disk).Sync, api.OK, "abcd\x00\xff", 6},
		{"Sync again", (*Disk).Sync, api.OK, "abcd\x00\xff", 6},
		{"Append e", appends("e"), api.OK, "abcd\x00\xffe", 6},
		{"Sync", (*Disk).Sync, api.OK, "abcd\x00\xffe", 7},
	})
	walk(t, New(nil), []step{
		{"Sync of nothing", (*Disk).Sync, api.OK, "", 0},
		{"Append nothing", appends(""), api.OK, "", 0},
		{"Append a", appends("a"), api.OK, "a", 0},
		{"Append b", appends("b"), api.OK, "ab", 0},
		{"Sync", (*Disk).Sync, api.OK, "ab", 2},
	})
	if e := New(nil).Append(nil); e != api.OK {
		t.Errorf("Append of nil answers %d", int(e))
	}
}

// P7.1: a cut leaves the first bytes, all of them safe, be it within the safe
// ones, behind them, at an end, or beyond one.
func TestCut(t *testing.T) {
	for _, c := range []struct {
		n    int
		left string
	}{
		{math.MinInt, ""}, {-1, ""}, {0, ""}, {1, "a"}, {2, "ab"}, {3, "abc"}, {4, "abcd"}, {5, "abcd"}, {math.MaxInt, "abcd"},
	} {
		d := New([]byte("ab"))
		d.Append([]byte("cd"))
		walk(t, d, []step{
			{"Cut " + strconv.Itoa(c.n), cuts(c.n), api.OK, c.left, len(c.left)},
			{"Crash", crashes(0), api.OK, c.left, len(c.left)},
			{"Append z", appends("z"), api.OK, c.left + "z", len(c.left)},
			{"Sync", (*Disk).Sync, api.OK, c.left + "z", len(c.left) + 1},
		})
	}
	walk(t, New(nil), []step{
		{"Cut -1 of nothing", cuts(-1), api.OK, "", 0},
		{"Cut 0 of nothing", cuts(0), api.OK, "", 0},
		{"Cut 1 of nothing", cuts(1), api.OK, "", 0},
	})
}

// P7.1: a crash loses what isn't safe, but for the first keep bytes of it, and
// what it leaves is safe.
func TestCrash(t *testing.T) {
	for _, c := range []struct {
		keep int
		left string
	}{
		{math.MinInt, "ab"}, {-1, "ab"}, {0, "ab"}, {1, "abc"}, {2, "abcd"}, {3, "abcde"}, {4, "abcde"}, {5, "abcde"}, {math.MaxInt - 1, "abcde"}, {math.MaxInt, "abcde"},
	} {
		d := New([]byte("ab"))
		d.Append([]byte("cd"))
		d.Append([]byte("e"))
		walk(t, d, []step{
			{"Crash " + strconv.Itoa(c.keep), crashes(c.keep), api.OK, c.left, len(c.left)},
			{"Crash again", crashes(0), api.OK, c.left, len(c.left)},
			{"Append yz", appends("yz"), api.OK, c.left + "yz", len(c.left)},
			{"Crash, keep y", crashes(1), api.OK, c.left + "y", len(c.left) + 1},
		})
	}
	walk(t, New(nil), []step{
		{"Crash of nothing", crashes(7), api.OK, "", 0},
		{"Crash of nothing", crashes(-7), api.OK, "", 0},
	})
}

// P7.1: so many calls do as said, whichever they are; those behind them answer
// ErrIO and do nothing, as long as nobody says otherwise.
func TestFail(t *testing.T) {
	walk(t, New([]byte("ab")), []step{
		{"Fail 4", fails(4), api.OK, "ab", 2},
		{"Append c", appends("c"), api.OK, "abc", 2},
		{"Sync", (*Disk).Sync, api.OK, "abc", 3},
		{"Append d", appends("d"), api.OK, "abcd", 3},
		{"Cut 4", cuts(4), api.OK, "abcd", 4},
		{"Append e", appends("e"), api.ErrIO, "abcd", 4},
		{"Sync", (*Disk).Sync, api.ErrIO, "abcd", 4},
		{"Cut 1", cuts(1), api.ErrIO, "abcd", 4},
		{"Append nothing", appends(""), api.ErrIO, "abcd", 4},
		{"Cut all", cuts(4), api.ErrIO, "abcd", 4},
		{"Fail 1", fails(1), api.OK, "abcd", 4},
		{"Append e", appends("e"), api.OK, "abcde", 4},
		{"Sync", (*Disk).Sync, api.ErrIO, "abcde", 4},
		{"Cut 5", cuts(5), api.ErrIO, "abcde", 4},
		{"Cut 0", cuts(0), api.ErrIO, "abcde", 4},
		{"Fail -1", fails(-1), api.OK, "abcde", 4},
		{"Sync", (*Disk).Sync, api.OK, "abcde", 5},
		{"Fail 0", fails(0), api.OK, "abcde", 5},
		{"Append f", appends("f"), api.ErrIO, "abcde", 5},
		{"Crash", crashes(0), api.OK, "abcde", 5},
		{"Append f", appends("f"), api.OK, "abcdef", 5},
		{"Sync", (*Disk).Sync, api.OK, "abcdef", 6},
		{"Cut 2", cuts(2), api.OK, "ab", 2},
	})
}

// P7.1: calls that have nothing to do are calls, too; Read, Safe and Crash
// aren't among those that are counted.
func TestFailCounts(t *testing.T) {
	for _, s := range []step{
		{name: "Append nothing", do: appends("")}, {name: "Sync", do: (*Disk).Sync}, {name: "Cut all", do: cuts(99)},
	} {
		d := New([]byte("ab"))
		d.Fail(2)
		for i, want := range []api.Errno{api.OK, api.OK, api.ErrIO, api.ErrIO} {
			see(t, s.name, d, "ab", 2)
			if e := s.do(d); e != want {
				t.Errorf("%s, call %d: answers %d, not %d", s.name, i, int(e), int(want))
			}
		}
	}
}

// P7.1: how many calls do as said is counted from the last Fail on, and ends
// with a crash; below 0 no call fails.
func TestFailEnds(t *testing.T) {
	for _, n := range []int{math.MinInt, math.MinInt + 1, -2, -1, 100, math.MaxInt} {
		for _, last := range []int{0, 1, 5, -1} {
			d := New(nil)
			d.Fail(last)
			d.Sync()
			d.Fail(n)
			for range 100 {
				if e := d.Append([]byte("a")); e != api.OK {
					t.Fatalf("Fail(%d), Fail(%d): Append answers %d", last, n, int(e))
				}
			}
			see(t, "Fail", d, strings.Repeat("a", 100), 0)
		}
	}
	for n := range 5 {
		d := New(nil)
		d.Fail(n)
		d.Sync()
		d.Crash(0)
		for range 10 {
			if e := d.Append([]byte("a")); e != api.OK {
				t.Fatalf("Fail(%d), Crash: Append answers %d", n, int(e))
			}
		}
	}
}

// P7.1: a disk that fails is read, and crashes, as any other one.
func TestCrashOfFailing(t *testing.T) {
	d := New([]byte("ab"))
	d.Append([]byte("cd"))
	d.Fail(0)
	if e := d.Sync(); e != api.ErrIO {
		t.Errorf("Sync answers %d", int(e))
	}
	see(t, "failing", d, "abcd", 2)
	d.Crash(1)
	see(t, "crashed", d, "abc", 3)
}

// P7.1, P1: a nil disk fails, has nothing, and takes everything.
func TestNil(t *testing.T) {
	var d *Disk
	for _, n := range []int{math.MinInt, -1, 0, 1, math.MaxInt} {
		d.Fail(n)
		d.Crash(n)
		if e := d.Cut(n); e != api.ErrIO {
			t.Errorf("Cut(%d) answers %d", n, int(e))
		}
		if e := d.Append(make([]byte, max(0, min(n, 3)))); e != api.ErrIO {
			t.Errorf("Append answers %d", int(e))
		}
		if e := d.Sync(); e != api.ErrIO {
			t.Errorf("Sync answers %d", int(e))
		}
		see(t, "nil", d, "", 0)
	}
	if e := d.Append(nil); e != api.ErrIO {
		t.Errorf("Append of nil answers %d", int(e))
	}
}

// Nothing is shared: neither what is handed in nor what is answered is the
// disk's own, and none of it is written into.
func TestSharesNothing(t *testing.T) {
	p := []byte("ab..")
	d := New(p[:2])
	q := []byte("cd..")
	d.Append(q[:2])
	d.Append([]byte("e"))
	if string(p) != "ab.." || string(q) != "cd.." {
		t.Errorf("written into: %q, %q", p, q)
	}
	clear(p)
	clear(q)
	see(t, "arguments written over", d, "abcde", 2)
	r := d.Read()
	s := d.Read()
	clear(r[:cap(r)])
	see(t, "answer written over", d, "abcde", 2)
	d.Cut(1)
	d.Append([]byte("xyz"))
	if string(s) != "abcde" {
		t.Errorf("an answer has changed: %q", s)
	}
	u := d.Read()
	_ = append(u, "zzzz"...)
	d.Append([]byte("w"))
	see(t, "appended to an answer", d, "axyzw", 1)
	d.Append(d.Read())
	see(t, "its own bytes", d, "axyzwaxyzw", 1)
}

// Nothing is shared: two disks of the same bytes are two.
func TestTwoDisks(t *testing.T) {
	p := []byte("ab")
	a, b := New(p), New(p)
	a.Append([]byte("c"))
	b.Append([]byte("d"))
	a.Fail(0)
	if e := b.Sync(); e != api.OK {
		t.Errorf("Sync answers %d", int(e))
	}
	see(t, "a", a, "abc", 2)
	see(t, "b", b, "abd", 3)
}

// plain is a disk as the chapter tells it: what is safe, what isn't, and of the
// calls to come whether each does as said (all, where none is told).
type plain struct {
	safe, loose string
	told        bool
	calls       []bool
}

func (m *plain) call() bool {
	if !m.told {
		return true
	}
	if len(m.calls) == 0 {
		return false
	}
	m.calls = m.calls[1:]
	return true
}

// first is the first n bytes of s, as near as it can be.
func first(s string, n int) string {
	if n < 0 {
		return ""
	}
	if n > len(s) {
		return s
	}
	return s[:n]
}

// twin is a call, of a disk and of a plain one.
type twin struct {
	name string
	real func(d *Disk) api.Errno
	told func(m *plain)
	free bool // it is no Append, Sync or Cut
}

func twins() []twin {
	var l []twin
	for _, p := range []string{"", "x", "yz"} {
		l = append(l, twin{"Append " + p, appends(p), func(m *plain) { m.loose += p }, false})
	}
	l = append(l, twin{"Sync", (*Disk).Sync, func(m *plain) { m.safe, m.loose = m.safe+m.loose, "" }, false})
	for _, n := range []int{-1, 0, 2, 9} {
		l = append(l, twin{"Cut " + strconv.Itoa(n), cuts(n), func(m *plain) { m.safe, m.loose = first(m.safe+m.loose, n), "" }, false})
	}
	for _, n := range []int{-1, 0, 1, 2} {
		l = append(l, twin{"Fail " + strconv.Itoa(n), fails(n), func(m *plain) { m.told, m.calls = n >= 0, make([]bool, max(n, 0)) }, true})
	}
	for _, n := range []int{-1, 0, 1, 9} {
		l = append(l, twin{"Crash " + strconv.Itoa(n), crashes(n), func(m *plain) {
			m.safe, m.loose, m.told = m.safe+first(m.loose, n), "", false
		}, true})
	}
	return l
}

// P7.1: whatever is done, up to five calls of them all, a disk is as the chapter
// tells it, and tells just what it should.
func TestAllWalks(t *testing.T) {
	const deep = 5
	l := twins()
	all := 1
	for range deep {
		all *= len(l)
	}
	for n := range all {
		d, m, path := New([]byte("abc")), &plain{safe: "abc"}, ""
		for k, i := 0, n; k < deep; k, i = k+1, i/len(l) {
			c := l[i%len(l)]
			path += ", " + c.name
			want := api.OK
			if c.free || m.call() {
				c.told(m)
			} else {
				want = api.ErrIO
			}
			if e := c.real(d); e != want || string(d.Read()) != m.safe+m.loose || d.Safe() != len(m.safe) {
				t.Fatalf("New abc%s: %d, %q, %d, not %d, %q, %d", path, int(e), d.Read(), d.Safe(), int(want), m.safe+m.loose, len(m.safe))
			}
		}
	}
}

// The chapter's example.
func TestExamples(t *testing.T) {
	d := New(nil)
	d.Append([]byte("ab"))
	d.Sync()
	d.Append([]byte("cd"))
	d.Crash(1)
	see(t, "example 1", d, "abc", 3)
}
