package wal

import (
	"bytes"
	"crypto/sha256"
	"encoding/binary"
	"encoding/hex"
	"fmt"
	"math/rand"
	"slices"
	"strings"
	"testing"

	"countinghouse/api"
	"countinghouse/disk"
)

// most is how many bytes a frame may tell, by the chapter.
const most = 1 << 20

// laid is a frame as the chapter tells it, by the library's means; of any length.
func laid(p string) string {
	n := string(binary.BigEndian.AppendUint32(nil, uint32(len(p))))
	sum := sha256.Sum256([]byte(n + p))
	return n + string(sum[:4]) + p
}

// all is frames, one behind the other.
func all(l ...string) string {
	s := ""
	for _, p := range l {
		s += laid(p)
	}
	return s
}

// named is a text, or how long it is, where it is too long to be told.
func named(s string) string {
	if len(s) > 99 {
		return fmt.Sprintf("%x.. (%d bytes)", s[:16], len(s))
	}
	return fmt.Sprintf("%q", s)
}

// alike says whether payloads are these texts.
func alike(found [][]byte, want []string) bool {
	return slices.EqualFunc(found, want, func(p []byte, s string) bool { return string(p) == s })
}

// seeScan holds what Scan finds against what it should.
func seeScan(t *testing.T, p string, size int, want ...string) {
	t.Helper()
	found, n := Scan([]byte(p))
	if !alike(found, want) || n != size {
		t.Errorf("Scan of %s: %d found, %d bytes, not %d, %d bytes", named(p), len(found), n, len(want), size)
	}
}

// seeDisk holds a disk against what it should be.
func seeDisk(t *testing.T, where string, d *disk.Disk, held string, safe int) {
	t.Helper()
	if got := string(d.Read()); got != held {
		t.Errorf("%s: the disk has %s, not %s", where, named(got), named(held))
	}
	if got := d.Safe(); got != safe {
		t.Errorf("%s: %d bytes are safe, not %d", where, got, safe)
	}
}

// seeError holds an error against what it should be.
func seeError(t *testing.T, where string, got, want api.Errno) {
	t.Helper()
	if got != want {
		t.Errorf("%s: answers %d, not %d", where, int(got), int(want))
	}
}

// seeSize holds a log's size against what it should be.
func seeSize(t *testing.T, where string, l *Log, want int) {
	t.Helper()
	if got := l.Size(); got != want {
		t.Errorf("%s: Size is %d, not %d", where, got, want)
	}
}

// opened is a log on a disk that can be opened, with these records.
func opened(t *testing.T, d *disk.Disk, want ...string) *Log {
	t.Helper()
	l, found, e := Open(d)
	if l == nil || e != api.OK || !alike(found, want) {
		t.Fatalf("Open of %s: %v, %q, %d, not %q", named(string(d.Read())), l != nil, found, int(e), want)
	}
	seeSize(t, "Open", l, len(all(want...)))
	return l
}

// seeShut says whether a disk can't be opened.
func seeShut(t *testing.T, where string, d *disk.Disk) {
	t.Helper()
	if l, found, e := Open(d); l != nil || len(found) != 0 || e != api.ErrIO {
		t.Errorf("%s: Open answers %v, %q, %d", where, l != nil, found, int(e))
	}
}

// P8.1: the length, the sum's first bytes, the payload.
func TestFrame(t *testing.T) {
	for _, c := range []struct{ p, frame string }{
		{"", "00000000" + "df3f6198"},
		{"a", "00000001" + "72ff6b02" + "61"},
		{"ab", "00000002" + "d2f295bb" + "6162"},
	} {
		if got := hex.EncodeToString(Frame([]byte(c.p))); got != c.frame {
			t.Errorf("Frame(%q) is %s, not %s", c.p, got, c.frame)
		}
	}
	if got := string(Frame(nil)); got != laid("") {
		t.Errorf("Frame(nil) is %q", got)
	}
}

// P8.1: lengths that need one, two and three bytes, and those round the ends of what is summed at once.
func TestFrameLengths(t *testing.T) {
	lengths := []int{255, 256, 257, 1000, 65535, 65536, 65537, most - 1, most}
	for n := range 140 {
		lengths = append(lengths, n)
	}
	for _, n := range lengths {
		for _, b := range []string{"\x00", "x", "\xff"} {
			p := strings.Repeat(b, n)
			f := string(Frame([]byte(p)))
			if f != laid(p) {
				t.Errorf("Frame of %s is %s", named(p), named(f))
			}
			seeScan(t, f, len(f), p)
		}
	}
}

// P1: there is no frame of more bytes than one may tell.
func TestFrameTooLong(t *testing.T) {
	for _, n := range []int{most + 1, most + 2, 1<<24 + 1} {
		if got := Frame(make([]byte, n)); len(got) != 0 {
			t.Errorf("Frame of %d bytes has %d", n, len(got))
		}
	}
}

// P8.1: the payloads of all frames, in their order, empty ones and those that are alike, too.
func TestScan(t *testing.T) {
	for _, l := range [][]string{
		nil,
		{""},
		{"a"},
		{"a", "b"},
		{"b", "a"},
		{"a", "a", "a"},
		{"", "", ""},
		{"", "a", "", "bc", ""},
		{laid("a"), "b"}, // a payload may be a frame itself
		{strings.Repeat("x", 300), "\x00\x00\x00\x00", "\xff"},
	} {
		seeScan(t, all(l...), len(all(l...)), l...)
	}
	if found, n := Scan(nil); len(found) != 0 || n != 0 {
		t.Errorf("Scan(nil): %q, %d", found, n)
	}
}

// P8.1: of bytes that end within a frame those ahead of it are found, wherever they end.
func TestScanCutShort(t *testing.T) {
	l := []string{"ab", "", "c", strings.Repeat("d", 70), "", "e"}
	p := all(l...)
	for end := range len(p) + 1 {
		whole := 0
		for whole < len(l) && len(all(l[:whole+1]...)) <= end {
			whole++
		}
		seeScan(t, p[:end], len(all(l[:whole]...)), l[:whole]...)
	}
}

// P8.1: behind the first thing that isn't a frame nothing is found, though frames follow.
func TestScanHurt(t *testing.T) {
	l := []string{"ab", "", "cde"}
	p := all(l...)
	for i := range 8 * len(p) {
		q := []byte(p)
		q[i/8] ^= 1 << (i % 8)
		whole := 0
		for len(all(l[:whole+1]...)) <= i/8 {
			whole++
		}
		seeScan(t, string(q), len(all(l[:whole]...)), l[:whole]...)
	}
	for _, s := range []string{"\x00", "\x00\x00\x00\x00\x00\x00\x00\x00", "\xff", "zzzzzzzzzzzzzzzz", laid("a")[1:], laid("a")[:8]} {
		seeScan(t, s+all(l...), 0)
		seeScan(t, laid("x")+s+all(l...), 9, "x")
	}
}

// P8.1: the sum is of the length and the payload, not of the payload alone, and its first bytes are meant.
func TestScanOtherSums(t *testing.T) {
	n := "\x00\x00\x00\x02"
	bare := sha256.Sum256([]byte("ab"))
	full := sha256.Sum256([]byte(n + "ab"))
	for _, sum := range [][]byte{bare[:4], full[4:8], full[28:], {0, 0, 0, 0}, {full[3], full[2], full[1], full[0]}} {
		seeScan(t, n+string(sum)+"ab", 0)
	}
	// The length, the lowest byte first.
	back := sha256.Sum256([]byte("\x02\x00\x00\x00ab"))
	seeScan(t, "\x02\x00\x00\x00"+string(back[:4])+"ab", 0)
}

// P8.1: a frame tells no more than 2^20 bytes, though they be there, and their sum be right.
func TestScanTooLong(t *testing.T) {
	p := strings.Repeat("x", most)
	seeScan(t, laid("a")+laid(p)+laid("b"), 9+8+most+9, "a", p, "b")
	for _, more := range []int{1, 2, most} {
		long := laid(strings.Repeat("x", most+more))
		seeScan(t, long, 0)
		seeScan(t, laid("a")+long+laid("b"), 9, "a")
	}
}

// P1, P8.1: lengths that no int of 32 bits holds, and those that aren't there.
func TestScanWildLengths(t *testing.T) {
	for _, n := range []uint32{1, 9, 10, 255, 256, most - 1, most, most + 1, 1 << 24, 1<<31 - 1, 1 << 31, 1<<31 + 1, 1<<32 - 8, 1<<32 - 1} {
		head := string(binary.BigEndian.AppendUint32(nil, n))
		for rest := range 9 {
			q := strings.Repeat("y", rest)
			sum := sha256.Sum256([]byte(head + q))
			want := []string{}
			if int64(n) == int64(rest) {
				want = append(want, q)
			}
			p := head + string(sum[:4]) + q
			seeScan(t, p, len(all(want...)), want...)
			seeScan(t, laid("a")+p, 9+len(all(want...)), append([]string{"a"}, want...)...)
		}
	}
}

// P8.1: frames of any bytes, with any bytes behind them; bytes are found again as they are.
func TestScanMany(t *testing.T) {
	r := rand.New(rand.NewSource(8))
	for range 2000 {
		var l []string
		for range r.Intn(6) {
			p := make([]byte, r.Intn(20))
			r.Read(p)
			l = append(l, string(p))
		}
		junk := make([]byte, r.Intn(30))
		r.Read(junk)
		if len(junk) > 0 {
			junk[0] |= 1 // by this its length is above 2^20
		}
		seeScan(t, all(l...)+string(junk), len(all(l...)), l...)
	}
}

// Nothing is shared, neither with what is handed in nor among what is found, and nothing is written into it.
func TestSharesNothing(t *testing.T) {
	p := []byte("ab..")
	f := Frame(p[:2])
	if string(p) != "ab.." {
		t.Errorf("Frame wrote into its argument: %q", p)
	}
	clear(p)
	if string(f) != laid("ab") {
		t.Errorf("a frame has changed: %q", f)
	}
	q := []byte(all("ab", "", "cd") + "junk")
	found, _ := Scan(q)
	if string(q) != all("ab", "", "cd")+"junk" {
		t.Errorf("Scan wrote into its argument: %q", q)
	}
	clear(q)
	_ = append(found[0], "zzzzzzzzzzzzzzzzzzzz"...)
	_ = append(found[1], "zzzzzzzzzzzzzzzzzzzz"...)
	if !alike(found, []string{"ab", "", "cd"}) {
		t.Errorf("what was found has changed: %q", found)
	}
}

// Nothing is shared by a log: what it is handed, and what it finds, may be written over.
func TestLogSharesNothing(t *testing.T) {
	d := disk.New([]byte(laid("ab")))
	l, found, _ := Open(d)
	clear(found[0])
	seeDisk(t, "what was found is written over", d, laid("ab"), 10)
	p := []byte("cd..")
	l.Append(p[:2])
	if string(p) != "cd.." {
		t.Errorf("Append wrote into its argument: %q", p)
	}
	clear(p)
	seeDisk(t, "what was appended is written over", d, all("ab", "cd"), 10)
}

// P8.2: what a disk has is found, and what stands behind it is cut.
func TestOpen(t *testing.T) {
	for _, l := range [][]string{nil, {""}, {"a"}, {"a", "", "bc"}} {
		p := all(l...)
		for _, junk := range []string{"", "\x00", laid("x")[:8], laid("x")[:3], "zzzzzzzzzzzzz" + laid("x"), laid(strings.Repeat("x", most+1))} {
			d := disk.New([]byte(p + junk))
			log := opened(t, d, l...)
			seeDisk(t, "Open", d, p, len(p))
			seeError(t, "Append", log.Append([]byte("new")), api.OK)
			seeSize(t, "Append", log, len(p)+11)
			seeDisk(t, "Append", d, p+laid("new"), len(p))
			opened(t, d, append(slices.Clone(l), "new")...)
		}
	}
}

// P8.2: Cut is called once if something stands behind the frames, and not at all if nothing does.
func TestOpenCuts(t *testing.T) {
	p := all("a", "b")
	for _, c := range []struct {
		loose string
		calls int
		safe  int
	}{
		{"", 0, len(p)}, {laid("c"), 0, len(p)}, {laid("c") + "junk", 1, len(p + laid("c"))}, {"junk", 1, len(p)},
	} {
		want := []string{"a", "b"}
		if strings.HasPrefix(c.loose, laid("c")) {
			want = append(want, "c")
		}
		d := disk.New([]byte(p))
		d.Append([]byte(c.loose))
		d.Fail(c.calls)
		opened(t, d, want...)
		seeDisk(t, "Open", d, all(want...), c.safe)
		seeError(t, "the call behind them", d.Sync(), api.ErrIO)
		d = disk.New([]byte(p))
		d.Append([]byte(c.loose))
		d.Fail(c.calls + 1)
		opened(t, d, want...)
		seeError(t, "one call is left", d.Sync(), api.OK)
		seeError(t, "no call is left", d.Sync(), api.ErrIO)
	}
}

// P8.2: without a disk, or with one that can't cut, there is no log, and nothing has changed.
func TestOpenFails(t *testing.T) {
	seeShut(t, "no disk", nil)
	for _, p := range []string{"", laid("a"), all("a", "", "b")} {
		d := disk.New([]byte(p))
		d.Append([]byte("junk"))
		d.Fail(0)
		seeShut(t, "a disk that fails", d)
		seeDisk(t, "a disk that fails", d, p+"junk", len(p))
		d.Fail(-1)
		found, _ := Scan([]byte(p))
		if l, got, e := Open(d); l == nil || len(got) != len(found) || e != api.OK {
			t.Errorf("a disk that fails no more: %q, %d", got, int(e))
		}
		seeDisk(t, "a disk that fails no more", d, p, len(p))
	}
}

// P8.2: frames are appended, one call each, and are safe when the log was synced.
func TestAppendSync(t *testing.T) {
	d := disk.New([]byte(laid("old") + "junk"))
	l := opened(t, d, "old")
	d.Fail(5)
	held, safe := laid("old"), 11
	for _, p := range []string{"a", "", "bc"} {
		seeError(t, "Append", l.Append([]byte(p)), api.OK)
		held += laid(p)
		seeDisk(t, "Append", d, held, safe)
		seeSize(t, "Append", l, len(held))
	}
	seeError(t, "Sync", l.Sync(), api.OK)
	seeDisk(t, "Sync", d, held, len(held))
	seeSize(t, "Sync", l, len(held))
	seeError(t, "Append of nil", l.Append(nil), api.OK)
	seeDisk(t, "Append of nil", d, held+laid(""), len(held))
	seeError(t, "the disk has done five calls", l.Sync(), api.ErrIO)
}

// P8.2: what is too long is ErrArg, whatever the disk does; the disk isn't asked, and nothing has changed.
func TestAppendTooLong(t *testing.T) {
	d := disk.New(nil)
	l := opened(t, d)
	longest := strings.Repeat("x", most)
	seeError(t, "the longest", l.Append([]byte(longest)), api.OK)
	seeSize(t, "the longest", l, most+8)
	seeError(t, "Sync", l.Sync(), api.OK)
	d.Fail(1)
	for _, n := range []int{most + 1, most + 2, 1<<24 + 1} {
		seeError(t, "too long", l.Append(make([]byte, n)), api.ErrArg)
		seeDisk(t, "too long", d, laid(longest), most+8)
		seeSize(t, "too long", l, most+8)
	}
	seeError(t, "one call is left", l.Sync(), api.OK)
	seeError(t, "no call is left", l.Append(nil), api.ErrIO)
	seeError(t, "too long, and a disk that fails", l.Append(make([]byte, most+1)), api.ErrArg)
	opened(t, d, longest)
}

// P8.2: what the disk turns down is not there, and isn't counted; it goes on when the disk does.
func TestFailing(t *testing.T) {
	d := disk.New(nil)
	l := opened(t, d)
	seeError(t, "Append a", l.Append([]byte("a")), api.OK)
	d.Fail(0)
	seeError(t, "Append b", l.Append([]byte("b")), api.ErrIO)
	seeError(t, "Append of nothing", l.Append(nil), api.ErrIO)
	seeError(t, "Sync", l.Sync(), api.ErrIO)
	seeDisk(t, "failing", d, laid("a"), 0)
	seeSize(t, "failing", l, 9)
	d.Fail(-1)
	seeError(t, "Append c", l.Append([]byte("c")), api.OK)
	seeError(t, "Sync", l.Sync(), api.OK)
	seeDisk(t, "failing no more", d, all("a", "c"), 18)
	seeSize(t, "failing no more", l, 18)
	opened(t, d, "a", "c")
}

// P8.2, P1: a nil log fails, and has nothing.
func TestNil(t *testing.T) {
	var l *Log
	seeError(t, "Append", l.Append([]byte("a")), api.ErrIO)
	seeError(t, "Append of nil", l.Append(nil), api.ErrIO)
	seeError(t, "Append of too much", l.Append(make([]byte, most+1)), api.ErrIO)
	seeError(t, "Sync", l.Sync(), api.ErrIO)
	seeSize(t, "nil", l, 0)
}

// Nothing is shared: logs on two disks are two.
func TestTwoLogs(t *testing.T) {
	d, f := disk.New(nil), disk.New([]byte(laid("x")))
	l, m := opened(t, d), opened(t, f, "x")
	l.Append([]byte("a"))
	m.Append([]byte("bc"))
	d.Fail(0)
	seeError(t, "Sync of the one", l.Sync(), api.ErrIO)
	seeError(t, "Sync of the other", m.Sync(), api.OK)
	seeSize(t, "the one", l, 9)
	seeSize(t, "the other", m, 19)
	opened(t, d, "a")
	opened(t, f, "x", "bc")
}

// kept is how many of these payloads' frames are whole within the first n bytes.
func kept(l []string, n int) int {
	whole := 0
	for whole < len(l) && len(all(l[:whole+1]...)) <= n {
		whole++
	}
	return whole
}

// P8.3: what was synced is found behind a crash, and of the others the first ones that are whole, wherever the crash cuts.
func TestCrashAnywhere(t *testing.T) {
	synced := []string{"one", "", "two"}
	loose := []string{"three", "", laid("four"), "", strings.Repeat("5", 80)}
	for keep := range len(all(loose...)) + 2 {
		d := disk.New(nil)
		l := opened(t, d)
		for _, p := range synced {
			l.Append([]byte(p))
		}
		l.Sync()
		for _, p := range loose {
			l.Append([]byte(p))
		}
		d.Crash(keep)
		want := append(slices.Clone(synced), loose[:kept(loose, keep)]...)
		l = opened(t, d, want...)
		seeDisk(t, "Open", d, all(want...), len(all(want...)))
		l.Append([]byte("more"))
		l.Sync()
		d.Crash(0)
		opened(t, d, append(want, "more")...)
	}
}

// world is a disk with its log, and what the chapter says of them.
type world struct {
	d             *disk.Disk
	l             *Log
	synced, loose []string
}

// does is a call, or a crash and what is opened behind it.
type does struct {
	name string
	do   func(t *testing.T, w *world)
}

func appends(p string) does {
	return does{"Append " + p, func(t *testing.T, w *world) {
		seeError(t, "Append", w.l.Append([]byte(p)), api.OK)
		w.loose = append(w.loose, p)
	}}
}

// turnedDown is a disk that fails at once, and no more behind it.
func turnedDown() does {
	return does{"turned down", func(t *testing.T, w *world) {
		w.d.Fail(0)
		seeError(t, "Append", w.l.Append([]byte("never")), api.ErrIO)
		seeError(t, "Sync", w.l.Sync(), api.ErrIO)
		w.d.Fail(-1)
	}}
}

func syncs() does {
	return does{"Sync", func(t *testing.T, w *world) {
		seeError(t, "Sync", w.l.Sync(), api.OK)
		w.synced, w.loose = append(w.synced, w.loose...), nil
	}}
}

// crashes leaves some bytes more than the first whole frames have, and opens the log again.
func crashes(whole, more int) does {
	return does{fmt.Sprintf("Crash behind %d frames and %d bytes", whole, more), func(t *testing.T, w *world) {
		keep := len(all(w.loose[:min(whole, len(w.loose))]...)) + more
		w.synced = append(w.synced, w.loose[:kept(w.loose, keep)]...)
		w.loose = nil
		w.d.Crash(keep)
		w.l = opened(t, w.d, w.synced...)
		seeDisk(t, "Open", w.d, all(w.synced...), len(all(w.synced...)))
	}}
}

// P8.2, P8.3: whatever is done, up to five things of them all, what should be there is found, and nothing else.
func TestAllWalks(t *testing.T) {
	const deep = 5
	l := []does{appends(""), appends("a"), appends("bcd"), turnedDown(), syncs(),
		crashes(0, 0), crashes(0, 1), crashes(0, 8), crashes(1, 0), crashes(1, 4), crashes(99, 99)}
	walks := 1
	for range deep {
		walks *= len(l)
	}
	for n := range walks {
		d := disk.New(nil)
		w := &world{d: d, l: opened(t, d)}
		path := ""
		for k, i := 0, n; k < deep; k, i = k+1, i/len(l) {
			path += ", " + l[i%len(l)].name
			l[i%len(l)].do(t, w)
		}
		want := append(slices.Clone(w.synced), w.loose...)
		seeSize(t, "walk", w.l, len(all(want...)))
		seeDisk(t, "walk", w.d, all(want...), len(all(w.synced...)))
		if t.Failed() {
			t.Fatalf("in the walk%s", path)
		}
	}
}

// P8.3: a disk that fails behind so many calls: what was told OK is found, what wasn't never is.
func TestFailAnywhere(t *testing.T) {
	for calls := range 14 {
		for keep := range 40 {
			d := disk.New(nil)
			l := opened(t, d)
			d.Fail(calls)
			var synced, loose []string
			for i := range 6 {
				p := strings.Repeat(string(rune('a'+i)), i)
				if l.Append([]byte(p)) == api.OK {
					loose = append(loose, p)
				}
				if i%2 == 1 && l.Sync() == api.OK {
					synced, loose = append(synced, loose...), nil
				}
			}
			seeSize(t, "failing", l, len(all(synced...)+all(loose...)))
			d.Crash(keep)
			opened(t, d, append(synced, loose[:kept(loose, keep)]...)...)
		}
	}
}

// P8.2: a crash changes nothing of what was found and appended by the log that was there.
func TestSizeBehindCrash(t *testing.T) {
	d := disk.New([]byte(laid("a")))
	l := opened(t, d, "a")
	l.Append([]byte("b"))
	d.Crash(0)
	seeSize(t, "the old log", l, 18)
	opened(t, d, "a")
}

// The chapter's example.
func TestExamples(t *testing.T) {
	p := slices.Concat(Frame([]byte("a")), Frame([]byte("b")), []byte{0})
	found, n := Scan(p)
	if len(found) != 2 || !bytes.Equal(found[0], []byte("a")) || !bytes.Equal(found[1], []byte("b")) || n != 18 {
		t.Errorf("example 1: %q, %d", found, n)
	}
}
