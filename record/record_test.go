package record

import (
	"bytes"
	"errors"
	"math"
	"slices"
	"strconv"
	"strings"
	"testing"

	"countinghouse/api"
)

func put(key, row string) api.Write { return api.Write{Key: key, Row: []byte(row)} }
func gone(key string) api.Write     { return api.Write{Key: key, Gone: true} }

func batch(n int64, l ...api.Write) api.Batch { return api.Batch{N: n, Writes: l} }

// writes: n of them, whose Keys rise, every third one Gone.
func writes(n int) []api.Write {
	var l []api.Write
	for i := range n {
		key := "k" + string([]byte{byte(i >> 8), byte(i)})
		if i%3 == 2 {
			l = append(l, gone(key))
		} else {
			l = append(l, put(key, strconv.Itoa(i)))
		}
	}
	return l
}

// right: batches that may be, no two alike.
func right() []api.Batch {
	long := strings.Repeat("\xff", 4000)
	return []api.Batch{
		batch(1, put("a", "")), batch(1, put("a", "x")), batch(1, gone("a")), batch(2, gone("a")), batch(math.MaxInt64, gone("a")),
		batch(0x0102030405060708, put("\x00", "\x00")), batch(256, put("\x00", ""), put("\x00\x00", ""), gone("\x00\x01"), put("\x01", "\x01")),
		batch(258, put("a", "xy"), gone("b"), put("ba", "")), batch(3, gone("a"), put("a\x00", "1"), put("aa", "2"), gone("b"), put("\x7f", ""), put("\x80", ""), put("\xff", "z")),
		batch(5, put(long, long)), batch(5, put(long[1:], long), gone(long)), batch(5, put("b", long[1:]), put(long, long)), batch(7, gone(strings.Repeat("\x00", 256)), put("b", strings.Repeat("r", 256))),
		batch(9, writes(2)...), batch(9, writes(63)...), batch(9, writes(64)...),
	}
}

// wrong: batches that may not be.
func wrong() []api.Batch {
	tooLong := strings.Repeat("a", 4001)
	return []api.Batch{
		{}, {N: 1}, {N: 1, Writes: []api.Write{}}, batch(0, put("a", "")), batch(-1, put("a", "")), batch(math.MinInt64, put("a", "")), batch(math.MinInt64+1, put("a", "")),
		batch(1, writes(65)...), batch(1, writes(66)...), batch(1, writes(256)...), batch(1, writes(257)...), batch(1, writes(1<<16+1)...),
		batch(1, put("", "")), batch(1, gone("")), batch(1, put("", ""), put("a", "")), batch(1, put("a", ""), put("", "")), batch(1, put("", ""), put("", "")),
		batch(1, put("b", ""), put("a", "")), batch(1, put("a", ""), put("a", "")), batch(1, put("a", "x"), gone("a")), batch(1, gone("aa"), gone("a")), batch(1, gone("a\x00"), gone("a")),
		batch(1, put("\x80", ""), put("\x7f", "")), batch(1, put("\xff", ""), put("a", "")), batch(1, put("a", ""), put("c", ""), put("b", "")), batch(1, put("a", ""), put("b", ""), put("a", "")),
		batch(1, put(tooLong, "")), batch(1, gone(tooLong)), batch(1, put("a", ""), gone(tooLong)), batch(1, put("a", tooLong)), batch(1, put("a", ""), put("b", tooLong)), batch(1, put(strings.Repeat("a", 1<<16+1), "")), batch(1, put("a", strings.Repeat("a", 1<<16))),
		batch(1, api.Write{Key: "a", Row: []byte("x"), Gone: true}), batch(1, put("a", ""), api.Write{Key: "b", Row: []byte{0}, Gone: true}),
	}
}

// clone: a batch that shares nothing with b.
func clone(b api.Batch) api.Batch {
	l := slices.Clone(b.Writes)
	for i := range l {
		l[i].Row = bytes.Clone(l[i].Row)
		l[i].Key = strings.Clone(l[i].Key)
	}
	return api.Batch{N: b.N, Writes: l}
}

// show: a batch, not too long to be read.
func show(b api.Batch) string {
	s := "batch " + strconv.FormatInt(b.N, 10) + ":"
	for _, w := range b.Writes[:min(len(b.Writes), 4)] {
		s += " " + strconv.Quote(w.Key[:min(len(w.Key), 8)]) + " (" + strconv.Itoa(len(w.Key)) + ") of " + strconv.Itoa(len(w.Row)) + " " + strconv.FormatBool(w.Gone)
	}
	return s + " (" + strconv.Itoa(len(b.Writes)) + ")"
}

// P6.1: Right.
func TestRight(t *testing.T) {
	for _, b := range right() {
		if !Right(b) {
			t.Errorf("isn't Right: %s", show(b))
		}
	}
	for _, b := range wrong() {
		if Right(b) {
			t.Errorf("is Right: %s", show(b))
		}
	}
	for n := range 200 {
		if got := Right(batch(1, writes(n)...)); got != (n >= 1 && n <= api.MaxWrites) {
			t.Errorf("Right of %d writes is %v", n, got)
		}
	}
	if !Right(batch(1, api.Write{Key: "a", Row: []byte{}, Gone: true})) {
		t.Error("a Row of nothing is a Row")
	}
}

// P6.1: of Keys each has to be above the one ahead of it, wherever they stand.
func TestRightOrder(t *testing.T) {
	const n = 8
	for i := range n {
		for k := range n {
			l := writes(n)
			l[i].Key = l[k].Key
			if got := Right(batch(1, l...)); got != (i == k) {
				t.Errorf("Right with the Key of %d at %d is %v", k, i, got)
			}
			l = writes(n)
			l[i], l[k] = l[k], l[i]
			if got := Right(batch(1, l...)); got != (i == k) {
				t.Errorf("Right with %d and %d in each other's place is %v", i, k, got)
			}
		}
	}
}

// P6.1: what one write may be, it may be at each place.
func TestRightAtEachPlace(t *testing.T) {
	const n = 4
	for i := range n {
		for _, size := range []int{0, 1, 3999, 4000, 4001, 8000} {
			l := writes(n)
			l[i] = put(l[i].Key, strings.Repeat("r", size))
			if got := Right(batch(1, l...)); got != (size <= 4000) {
				t.Errorf("Right with a Row of %d bytes at %d is %v", size, i, got)
			}
			l[i].Gone = true
			if got := Right(batch(1, l...)); got != (size == 0) {
				t.Errorf("Right with a Gone one that has a Row of %d bytes at %d is %v", size, i, got)
			}
			l = writes(n)
			if size > 0 {
				l[i].Key += strings.Repeat("\x00", max(size-len(l[i].Key), 0))
				if got := Right(batch(1, l...)); got != (size <= 4000) {
					t.Errorf("Right with a Key of %d bytes at %d is %v", size, i, got)
				}
			}
		}
	}
}

// P6.1: Encode.
func TestEncode(t *testing.T) {
	long := strings.Repeat("l", 4000)
	for _, c := range []struct {
		b    api.Batch
		want string
	}{
		{batch(1, put("a", "")), "\x00\x00\x00\x00\x00\x00\x00\x01\x00\x01\x00\x01a\x00\x00\x00"},
		{batch(1, gone("a")), "\x00\x00\x00\x00\x00\x00\x00\x01\x00\x01\x00\x01a\x01"},
		{batch(0x0102030405060708, put("\x00", "\x01\xff")), "\x01\x02\x03\x04\x05\x06\x07\x08\x00\x01\x00\x01\x00\x00\x00\x02\x01\xff"},
		{batch(math.MaxInt64, gone("ab"), put("b", "xyz"), gone("c")), "\x7f\xff\xff\xff\xff\xff\xff\xff\x00\x03\x00\x02ab\x01\x00\x01b\x00\x00\x03xyz\x00\x01c\x01"},
		{batch(2, put(long, long)), "\x00\x00\x00\x00\x00\x00\x00\x02\x00\x01\x0f\xa0" + long + "\x00\x0f\xa0" + long},
		{batch(2, api.Write{Key: "a", Row: []byte{}, Gone: true}), "\x00\x00\x00\x00\x00\x00\x00\x02\x00\x01\x00\x01a\x01"},
	} {
		if got := Encode(c.b); string(got) != c.want {
			t.Errorf("Encode of %s: %.80x, not %.80x", show(c.b), got, c.want)
		}
	}
	p := Encode(batch(1, writes(64)...))
	if string(p[8:10]) != "\x00\x40" {
		t.Errorf("64 writes: %x", p[8:10])
	}
}

// P6.2: Decode tells what was Encoded.
func TestDecodeOfEncode(t *testing.T) {
	for _, b := range right() {
		got, at, e := Decode(Encode(b))
		if !Same(got, b) || !Right(got) || at != 0 || e != api.OK {
			t.Errorf("Decode of Encode: %s, %d, %d: not %s", show(got), at, e, show(b))
		}
	}
}

func wantError(t *testing.T, p []byte, at int, want api.Errno) {
	t.Helper()
	b, got, e := Decode(p)
	if b.N != 0 || len(b.Writes) != 0 || got != at || e != want {
		t.Errorf("Decode(%.80x): %s, %d, %d: not error %d at %d", p, show(b), got, e, want, at)
	}
}

// ends: of each number, text and byte of b's bytes the place behind it.
func ends(b api.Batch) []int {
	l := []int{8, 10}
	at := 10
	add := func(n int) {
		at += n
		l = append(l, at)
	}
	for _, w := range b.Writes {
		add(2)
		add(len(w.Key))
		add(1)
		if !w.Gone {
			add(2)
			add(len(w.Row))
		}
	}
	return l
}

// P6.2: bytes that end too soon, at each place: what isn't whole began where the last whole thing ended.
func TestDecodeShort(t *testing.T) {
	wantError(t, nil, 0, api.ErrShort)
	wantError(t, []byte{}, 0, api.ErrShort)
	for _, b := range right() {
		p, from := Encode(b), 0
		for _, end := range ends(b) {
			for n := from; n < end; n++ {
				wantError(t, p[:n], from, api.ErrShort)
			}
			from = end
		}
		if from != len(p) {
			t.Errorf("%s has %d bytes, not %d", show(b), len(p), from)
		}
	}
}

// P6.2: bytes are left.
func TestDecodeLeft(t *testing.T) {
	for _, b := range right() {
		p := Encode(b)
		for _, behind := range []string{"\x00", "\x01", "\xff", "\x00\x01z\x01", strings.Repeat("\x00", 300), string(p)} {
			wantError(t, append(bytes.Clone(p), behind...), len(p), api.ErrForm)
		}
	}
}

// P6.2: N, read as two's complement, and how many writes there are, whether they are there or not.
func TestDecodeNumbers(t *testing.T) {
	rest := "\x00\x01\x00\x01a\x01"
	for _, n := range []string{"\x00\x00\x00\x00\x00\x00\x00\x00", "\x80\x00\x00\x00\x00\x00\x00\x00", "\x80\x00\x00\x00\x00\x00\x00\x01", "\xff\xff\xff\xff\xff\xff\xff\xff"} {
		for cut := range len(rest) + 1 {
			wantError(t, []byte(n+rest[:cut]), 0, api.ErrForm)
		}
	}
	for count := range 1 << 16 {
		p := Encode(batch(1, writes(min(count, 70))...))
		p[8], p[9] = byte(count>>8), byte(count)
		if count < 1 || count > api.MaxWrites {
			wantError(t, p, 8, api.ErrForm)
			wantError(t, p[:10], 8, api.ErrForm)
		} else if b, at, e := Decode(p); len(b.Writes) != count || at != 0 || e != api.OK {
			t.Errorf("%d writes: %s, %d, %d", count, show(b), at, e)
		}
	}
}

// P6.2: how long a Key, or a Row, is, at the place of the number that says so, whether its bytes are there or not.
func TestDecodeSizes(t *testing.T) {
	head := "\x00\x00\x00\x00\x00\x00\x00\x01\x00\x02"
	first := "\x00\x01\x00\x00\x00\x00"
	second := "\x00\x01b\x00"
	size := func(n int) string { return string([]byte{byte(n >> 8), byte(n)}) }
	for _, n := range []int{0, 4001, 4002, 0x0fff, 0x1000, 0x7fff, 0x8000, 0xffff} {
		long := strings.Repeat("z", n) + "\x01"
		for _, behind := range []string{"", "z", long} {
			wantError(t, []byte(head+size(n)+behind), 10, api.ErrForm)
			wantError(t, []byte(head+first+size(n)+behind), 16, api.ErrForm)
			if n > 0 {
				wantError(t, []byte(head+second+size(n)+behind), 14, api.ErrForm)
				wantError(t, []byte(head+first+second+size(n)+behind), 20, api.ErrForm)
			}
		}
	}
	wantError(t, []byte(head+size(4000)), 12, api.ErrShort)
	wantError(t, []byte(head+first+second+size(4000)+strings.Repeat("r", 3999)), 22, api.ErrShort)
}

// P6.2: the byte behind a Key is 0 or 1.
func TestDecodeGone(t *testing.T) {
	for c := 2; c < 256; c++ {
		p := Encode(batch(1, gone("ab"), put("b", "x")))
		p[14] = byte(c)
		wantError(t, p, 14, api.ErrForm)
		wantError(t, p[:15], 14, api.ErrForm)
		p[14] = 1
		p[18] = byte(c)
		wantError(t, p, 18, api.ErrForm)
		wantError(t, p[:19], 18, api.ErrForm)
	}
}

// P6.2: Keys that don't rise are told at the later one's first byte.
func TestDecodeOrder(t *testing.T) {
	for _, c := range []struct {
		b  api.Batch
		at int
	}{
		{batch(1, put("b", ""), put("a", "")), 18},
		{batch(1, put("a", ""), put("a", "")), 18},
		{batch(1, put("a", "x"), gone("a")), 19},
		{batch(1, gone("aa"), gone("a")), 17},
		{batch(1, gone("a\x00"), gone("a")), 17},
		{batch(1, gone("\x80"), gone("\x7f")), 16},
		{batch(1, gone("\xff"), gone("a")), 16},
		{batch(1, gone("a"), gone("c"), gone("b")), 20},
		{batch(1, gone("a"), gone("b"), gone("a")), 20},
		{batch(1, gone("b"), gone("a"), gone("a")), 16},
	} {
		wantError(t, Encode(c.b), c.at, api.ErrForm)
	}
}

// P6.2: of several errors the one that is met first, reading on.
func TestDecodeMetFirst(t *testing.T) {
	head := "\x00\x00\x00\x00\x00\x00\x00\x01\x00\x02\x00\x01b\x01"
	for _, c := range []struct {
		p  string
		at int
		e  api.Errno
	}{
		// N ahead of the count, the count ahead of a Key.
		{"\x00\x00\x00\x00\x00\x00\x00\x00\x00\x00", 0, api.ErrForm},
		{"\xff\xff\xff\xff\xff\xff\xff\xff\x00", 0, api.ErrForm},
		{"\x00\x00\x00\x00\x00\x00\x00\x01\x00\x00\x00\x00", 8, api.ErrForm},
		{"\x00\x00\x00\x00\x00\x00\x00\x01\x00\x41\x00", 8, api.ErrForm},
		// An earlier write ahead of a later one, a Key's length ahead of the Key, the Key ahead of the byte behind it.
		{"\x00\x00\x00\x00\x00\x00\x00\x01\x00\x02\x00\x01b\x02\x00\x00", 13, api.ErrForm},
		{head + "\xff\xff", 14, api.ErrForm},
		{head + "\x00\x01a", 16, api.ErrForm},
		{head + "\x00\x01a\x02", 16, api.ErrForm},
		{head + "\x00\x01a\x00\xff\xff", 16, api.ErrForm},
		{head + "\x00\x01b\x00\x00", 16, api.ErrForm},
		// A Key that isn't whole isn't held against another one.
		{head + "\x00\x02a", 16, api.ErrShort},
		{head + "\x00\x02", 16, api.ErrShort},
		// The byte ahead of a Row, the Row ahead of what is left.
		{head + "\x00\x01c\x02\xff\xff", 17, api.ErrForm},
		{head + "\x00\x01c\x00\xff\xff", 18, api.ErrForm},
		{head + "\x00\x01c\x00\x00\x02x", 20, api.ErrShort},
		{head + "\x00\x01c\x00\x00\x01xy", 21, api.ErrForm},
		{head + "\x00\x01c\x01\x00\x00", 18, api.ErrForm},
	} {
		wantError(t, []byte(c.p), c.at, c.e)
	}
}

// P6.2: what Decode allows is what Encode writes of a batch that is Right: of all that stands behind an N, of up to 8 bytes out of five that decide something.
func TestDecodeAllowsEncodedAlone(t *testing.T) {
	allowed := 0
	var all func(p []byte, left int)
	all = func(p []byte, left int) {
		b, at, e := Decode(p)
		switch {
		case e == api.OK:
			allowed++
			if at != 0 || !Right(b) || !bytes.Equal(Encode(b), p) {
				t.Fatalf("Decode(%x): %s, %d", p, show(b), at)
			}
		case e != api.ErrShort && e != api.ErrForm || b.N != 0 || len(b.Writes) != 0 || at < 0 || at > len(p):
			t.Fatalf("Decode(%x): %s, %d, %d", p, show(b), at, e)
		}
		if left == 0 {
			return
		}
		for _, c := range []byte{0, 1, 2, 'a', 0xff} {
			all(append(bytes.Clone(p), c), left-1)
		}
	}
	all([]byte{0, 0, 0, 0, 0, 0, 0, 7}, 8)
	if allowed == 0 {
		t.Error("nothing was allowed")
	}
}

// P6.2: with any one byte turned, Decode tells another batch, or an error no earlier than in what holds that byte.
func TestDecodeTurned(t *testing.T) {
	b := batch(258, put("a", "xy"), gone("b"), put("ba", ""))
	p := Encode(b)
	for i := range p {
		from := 0
		for _, end := range ends(b) {
			if end <= i {
				from = end
			}
		}
		for c := range 256 {
			q := bytes.Clone(p)
			q[i] = byte(c)
			got, at, e := Decode(q)
			if e == api.OK && (!bytes.Equal(Encode(got), q) || !Right(got) || Same(got, b) != (q[i] == p[i])) || e != api.OK && at < from {
				t.Fatalf("Decode(%x): %s, %d, %d", q, show(got), at, e)
			}
		}
	}
}

// P6.2: Same, of batches that aren't Right, too.
func TestSame(t *testing.T) {
	all := append(right(), wrong()[3:]...)
	for i, a := range all {
		for k, b := range all {
			if got := Same(a, clone(b)); got != (i == k) {
				t.Errorf("Same(%s, %s) is %v", show(a), show(b), got)
			}
		}
	}
	if !Same(api.Batch{}, api.Batch{Writes: []api.Write{}}) || !Same(batch(1, api.Write{Key: "a", Row: []byte{}}), batch(1, api.Write{Key: "a"})) {
		t.Error("lists of nothing aren't the Same")
	}
	for i := range 8 {
		for _, turn := range []func(w *api.Write){
			func(w *api.Write) { w.Key += "\x00" },
			func(w *api.Write) { w.Gone = !w.Gone },
			func(w *api.Write) { w.Row = append(w.Row, 0) },
		} {
			a, b := batch(1, writes(8)...), batch(1, writes(8)...)
			turn(&b.Writes[i])
			if Same(a, b) || Same(b, a) {
				t.Errorf("Same, but for place %d", i)
			}
		}
	}
}

// Nothing is shared: no call writes into what it was handed, also behind its end, and what it answers is its own.
func TestSharesNothing(t *testing.T) {
	b := batch(258, put("a", "xy"), gone("b"), put("c", "z"))
	before := clone(b)
	p := Encode(b)
	Right(b)
	Same(b, before)
	if !Same(b, before) {
		t.Errorf("written into: %s", show(b))
	}
	clear(b.Writes[0].Row)
	again := bytes.Clone(p)
	got, _, _ := Decode(p)
	Decode(p[:12])
	if !bytes.Equal(p, again) {
		t.Errorf("written into: %x", p)
	}
	got.Writes[0].Row = append(got.Writes[0].Row, "more"...)
	if !bytes.Equal(p, again) || string(got.Writes[2].Row) != "z" {
		t.Errorf("Rows share what they stand in: %x", p)
	}
	got, _, _ = Decode(p)
	clear(p)
	if !Same(got, before) {
		t.Errorf("hangs on what was handed in: %s", show(got))
	}
	if q := Encode(before); !bytes.Equal(q, again) {
		t.Errorf("Encode is another one the second time: %x", q)
	}
}

// An error of a reader tells both what it wraps and where it was met, also when another one wraps it.
func TestMet(t *testing.T) {
	for _, e := range []api.Errno{api.ErrShort, api.ErrForm} {
		var err error = met{7, e}
		if at, got := tell(err); at != 7 || got != e {
			t.Errorf("%d, %d: not %d at 7", at, got, e)
		}
		if at, got := tell(errors.Join(err)); at != 7 || got != e {
			t.Errorf("wrapped: %d, %d: not %d at 7", at, got, e)
		}
		if !strings.HasSuffix(err.Error(), " at 7") || !strings.HasPrefix(err.Error(), e.Error()) {
			t.Error(err)
		}
	}
}

// P1: no call panics, of batches that aren't Right, or of any bytes.
func TestNoPanic(t *testing.T) {
	all := append(right(), wrong()...)
	for _, b := range all {
		Right(b)
		Decode(Encode(b))
		for _, x := range all {
			Same(b, x)
		}
	}
	p := Encode(batch(1, put("a", "xy"), gone("b")))
	for i := range p {
		for k := range p {
			for _, c := range []byte{0, 1, 0x7f, 0x80, 0xff} {
				q := bytes.Clone(p)
				q[i], q[k] = c, 0xff
				Decode(q)
				Decode(q[i:])
				Decode(q[:k])
			}
		}
	}
}

// The chapter's example.
func TestExample(t *testing.T) {
	wantError(t, nil, 0, api.ErrShort)
}
