package sha

import (
	"bytes"
	"crypto/sha256"
	"encoding/hex"
	"math"
	"strings"
	"testing"
)

// someBytes: n bytes of which none tells the next one.
func someBytes(n int) []byte {
	p := make([]byte, n)
	x := uint32(n) + 1
	for i := range p {
		x = x*1664525 + 1013904223
		p[i] = byte(x >> 24)
	}
	return p
}

func wantSum(t *testing.T, p []byte) {
	t.Helper()
	want := sha256.Sum256(p)
	if got := Sum(p); got != string(want[:]) {
		t.Errorf("Sum of %d bytes: %x, not %x", len(p), got, want)
	}
}

// P3.1: Sum, of the standard's own examples.
func TestSumOfKnownTexts(t *testing.T) {
	for _, c := range []struct{ s, want string }{
		{"", "e3b0c44298fc1c149afbf4c8996fb92427ae41e4649b934ca495991b7852b855"},
		{"abc", "ba7816bf8f01cfea414140de5dae2223b00361a396177a9cb410ff61f20015ad"},
		{"abcdbcdecdefdefgefghfghighijhijkijkljklmklmnlmnomnopnopq", "248d6a61d20638b8e5c026930c3e6039a33ce45964ff2167f6ecedd419db06c1"},
		{"abcdefghbcdefghicdefghijdefghijkefghijklfghijklmghijklmnhijklmnoijklmnopjklmnopqklmnopqrlmnopqrsmnopqrstnopqrstu", "cf5b16a778af8380036ce59e7b0492370b249b11e8f07a51afac45037afee9d1"},
		{strings.Repeat("a", 1000000), "cdc76e5c9914fb9281a1c7e284d73e67f1809a48a497200e046d39ccc7112cd0"},
	} {
		if got := hex.EncodeToString([]byte(Sum([]byte(c.s)))); got != c.want {
			t.Errorf("Sum of %.20q (%d bytes): %s, not %s", c.s, len(c.s), got, c.want)
		}
	}
}

// P3.1: Sum of each length round the ends of some blocks, where the last block's filling changes.
func TestSumOfEachLength(t *testing.T) {
	for n := range 5*blockSize + 2 {
		wantSum(t, someBytes(n))
		wantSum(t, make([]byte, n))
		wantSum(t, bytes.Repeat([]byte{0xff}, n))
	}
}

// P3.1: Sum of lengths whose bits need each of the lower bytes of the length.
func TestSumOfLongBytes(t *testing.T) {
	for _, n := range []int{1<<13 - 1, 1 << 13, 1<<13 + 55, 1<<13 + 56, 1<<16 + 1, 1<<21 - 1, 1 << 21, 1<<21 + 64} {
		wantSum(t, someBytes(n))
	}
}

// P3.1: the last block tells all 8 bytes of the length in bits, those of lengths too long to be summed here, too.
func TestFillTellsTheLength(t *testing.T) {
	for _, n := range []int{0, 3, 1 << 28, 1<<29 - 1, 1 << 29, 1<<31 - 1, 0x0123456789abcdef} {
		h := begin()
		h.fill(n)
		bits := uint64(n) * 8
		got := uint64(0)
		for _, b := range h.block[blockSize-lengthSize:] {
			got = got<<8 | uint64(b)
		}
		if got != bits || h.block[0] != endMark || h.used != 0 {
			t.Errorf("length %d: %x", n, h.block)
		}
	}
}

// P3.1: a sum is Size bytes, and every bit of what is summed changes it.
func TestSumOfEachBit(t *testing.T) {
	if Size != 32 {
		t.Errorf("Size is %d", Size)
	}
	p := someBytes(130)
	sums := map[string]int{Sum(p): -1}
	for i := range 8 * len(p) {
		p[i/8] ^= 1 << (i % 8)
		s := Sum(p)
		p[i/8] ^= 1 << (i % 8)
		if len(s) != Size {
			t.Fatalf("a sum of %d bytes", len(s))
		}
		if k, ok := sums[s]; ok {
			t.Errorf("bits %d and %d: one sum", i, k)
		}
		sums[s] = i
	}
}

// P3.1: nothing is the same, nil or empty.
func TestSumOfNothing(t *testing.T) {
	if Sum(nil) != Sum([]byte{}) || Sum(nil) == Sum([]byte{0}) {
		t.Errorf("%x, %x, %x", Sum(nil), Sum([]byte{}), Sum([]byte{0}))
	}
}

// Nothing is shared, and nothing is kept: Sum leaves its bytes, and what stands behind them, and tells the same again.
func TestSumSharesNothing(t *testing.T) {
	whole := someBytes(200)
	before := bytes.Clone(whole)
	p := whole[:100]
	s := Sum(p)
	if !bytes.Equal(whole, before) {
		t.Error("Sum wrote into what it was handed")
	}
	Sum(someBytes(77))
	if Sum(p) != s {
		t.Error("another sum the second time")
	}
	kept := strings.Clone(s)
	clear(whole)
	Sum(whole)
	if s != kept {
		t.Error("a sum hangs on what was handed in")
	}
}

// P3.1: Bit, of each place of a text.
func TestBit(t *testing.T) {
	for _, d := range []string{"\x81\x40", "\x00", "\xff", "\x01\x02\x04\x08\x10\x20\x40\x80", Sum([]byte("abc")), string(someBytes(300)), "é€"} {
		for i := range 8 * len(d) {
			want := 0
			if d[i/8]&(0x80>>(i%8)) != 0 {
				want = 1
			}
			if got := Bit(d, i); got != want {
				t.Errorf("Bit(%x, %d): %d, not %d", d, i, got, want)
			}
		}
	}
	first := []int{1, 0, 1, 1, 0, 0, 1, 0, 0, 0, 0, 0, 0, 0, 0, 1}
	for i, want := range first {
		if got := Bit("\xb2\x01", i); got != want {
			t.Errorf("Bit(b201, %d): %d, not %d", i, got, want)
		}
	}
}

// P3.1, P1: places that there aren't are 0.
func TestBitOfNoPlace(t *testing.T) {
	for _, d := range []string{"", "\xff", "\xff\xff", strings.Repeat("\xff", Size)} {
		n := 8 * len(d)
		for _, i := range []int{-1, -2, -7, -8, -9, -n, -n - 1, n, n + 1, n + 7, n + 8, math.MinInt, math.MinInt + 7, math.MinInt32, math.MaxInt32, math.MaxInt - 7, math.MaxInt} {
			if got := Bit(d, i); got != 0 {
				t.Errorf("Bit(%x, %d): %d", d, i, got)
			}
		}
	}
}

// P3.1: Hex.
func TestHex(t *testing.T) {
	for _, c := range []struct{ d, want string }{
		{"", ""},
		{"\x00", "00"},
		{"\x0f", "0f"},
		{"\xf0", "f0"},
		{"\x00\xfe", "00fe"},
		{"\x01\x23\x45\x67\x89\xab\xcd\xef", "0123456789abcdef"},
		{"\xfe\xdc\xba\x98\x76\x54\x32\x10", "fedcba9876543210"},
		{"abc", "616263"},
		{"é", "c3a9"},
	} {
		if got := Hex(c.d); got != c.want {
			t.Errorf("Hex(%x): %s, not %s", c.d, got, c.want)
		}
	}
	for b := range 256 {
		d := string([]byte{byte(b), ^byte(b)})
		if got, want := Hex(d), hex.EncodeToString([]byte(d)); got != want {
			t.Errorf("Hex: %s, not %s", got, want)
		}
	}
	d := string(someBytes(1000))
	if got := Hex(d); got != hex.EncodeToString([]byte(d)) {
		t.Errorf("Hex of 1000 bytes: %s", got)
	}
}

// The document's example: Sum of abc begins with ba 78 16 bf.
func TestExample(t *testing.T) {
	if got := Hex(Sum([]byte("abc"))); !strings.HasPrefix(got, "ba7816bf") {
		t.Error(got)
	}
}
