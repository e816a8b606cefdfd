package mark

import (
	"bytes"
	"crypto/sha256"
	"encoding/binary"
	"strings"
	"testing"

	"countinghouse/sha"
)

// sum: by the library, so that nothing here hangs on package sha.
func sum(p []byte) string {
	d := sha256.Sum256(p)
	return string(d[:])
}

// digest: n-th of some that are unlike.
func digest(n byte) string { return sum([]byte{n, 0xd1}) }

// someKeys: the edges of a key's length bytes, and keys that look like other things.
func someKeys() []string {
	return []string{
		"", "k", "key", "\x00", "\x00\x00", "\x01", "\x01\x00\x00\x00\x00", "\xff\xfe", "é€",
		strings.Repeat("\x00", 32), strings.Repeat("\x80", 64),
		strings.Repeat("a", 127), strings.Repeat("b", 128), strings.Repeat("c", 255), strings.Repeat("d", 256), strings.Repeat("e", 257),
		strings.Repeat("f", 1<<16-1), strings.Repeat("g", 1<<16), strings.Repeat("h", 1<<16+0x203),
	}
}

func someRows() [][]byte {
	return [][]byte{nil, {}, {0}, []byte("row"), {1, 0, 0, 0, 1, 'k'}, bytes.Repeat([]byte{0xff}, 300)}
}

// P4.1: Empty is the sum of one byte, 0.
func TestEmpty(t *testing.T) {
	if got := Empty(); got != sum([]byte{0}) || sha.Hex(got) != "6e340b9cffb37a989ca544e6bb780a2c78901d3fb33738768511a30617afa01d" {
		t.Errorf("%x", got)
	}
	if Empty() == sum(nil) {
		t.Error("of no byte at all")
	}
}

// P4.1: LeafBytes: a byte 1, the key's length in four bytes, the key, the row; Leaf is their sum.
func TestLeaf(t *testing.T) {
	for _, key := range someKeys() {
		for _, row := range someRows() {
			want := binary.BigEndian.AppendUint32([]byte{1}, uint32(len(key)))
			want = append(append(want, key...), row...)
			if got := LeafBytes(key, row); !bytes.Equal(got, want) {
				t.Errorf("LeafBytes of a key of %d bytes, %x: begins %x", len(key), row, got[:min(len(got), 10)])
			}
			if got := Leaf(key, row); got != sum(want) {
				t.Errorf("Leaf of a key of %d bytes, %x: %x", len(key), row, got)
			}
		}
	}
}

// P4.1: the length's highest byte is told, too.
func TestLeafOfALongKey(t *testing.T) {
	key := strings.Repeat("k", 1<<24+0x20304)
	got := LeafBytes(key, []byte("row"))
	if !bytes.Equal(got[:5], []byte{1, 1, 2, 3, 4}) || string(got[5:]) != key+"row" {
		t.Errorf("begins %x, %d bytes", got[:5], len(got))
	}
}

// P4.1: written out by hand.
func TestBytesByHand(t *testing.T) {
	if got := LeafBytes("key", []byte("row")); string(got) != "\x01\x00\x00\x00\x03keyrow" {
		t.Errorf("%x", got)
	}
	if got := LeafBytes("", nil); string(got) != "\x01\x00\x00\x00\x00" {
		t.Errorf("%x", got)
	}
	a, b, c := strings.Repeat("a", 32), strings.Repeat("b", 32), strings.Repeat("c", 32)
	if got := NodeBytes(a, b); string(got) != "\x02"+a+b {
		t.Errorf("%x", got)
	}
	if got := LinkBytes(a, b, c); string(got) != "\x03"+a+b+c {
		t.Errorf("%x", got)
	}
}

// P4.1: NodeBytes: a byte 2, the left digest, the right one; Node is their sum.
func TestNode(t *testing.T) {
	for i := range byte(5) {
		for k := range byte(5) {
			l, r := digest(i), digest(k)
			want := []byte("\x02" + l + r)
			if got := NodeBytes(l, r); !bytes.Equal(got, want) {
				t.Errorf("NodeBytes %d %d: %x", i, k, got)
			}
			if got := Node(l, r); got != sum(want) {
				t.Errorf("Node %d %d: %x", i, k, got)
			}
		}
	}
}

// P4.1: LinkBytes: a byte 3, and its three; Link is the sum of them with the record's own sum.
func TestLink(t *testing.T) {
	last, root := digest(1), digest(2)
	for _, record := range append(someRows(), []byte(digest(3)), bytes.Repeat([]byte("record"), 1000)) {
		want := []byte("\x03" + last + root + sum(record))
		if got := LinkBytes(last, root, sum(record)); !bytes.Equal(got, want) {
			t.Errorf("LinkBytes of %.20x: %x", record, got)
		}
		if got := Link(last, root, record); got != sum(want) {
			t.Errorf("Link of %.20x: %x", record, got)
		}
	}
}

// P4.1: unlike ones have unlike bytes, of one kind and of two, wherever a byte stands.
func TestUnlikeBytes(t *testing.T) {
	seen := map[string]string{"\x00": "empty"}
	add := func(what string, p []byte) {
		if other, ok := seen[string(p)]; ok {
			t.Errorf("%s and %s: one text of bytes", what, other)
		}
		seen[string(p)] = what
	}
	whole := "\x00\x00\x00\x01ab\x00\x00"
	for i := range len(whole) + 1 {
		add("leaf", LeafBytes(whole[:i], []byte(whole[i:])))
	}
	d := []string{digest(1), digest(2), digest(3), strings.Repeat("\x00", 32)}
	for _, a := range d {
		for _, b := range d {
			add("node", NodeBytes(a, b))
			for _, c := range d {
				add("link", LinkBytes(a, b, c))
			}
		}
		add("leaf", LeafBytes(a, nil))
		add("leaf", LeafBytes("", []byte(a)))
	}
	// A leaf whose bytes behind the first one would be a node's, or a link's.
	add("leaf", LeafBytes(string(make([]byte, 60)), nil))
	add("node", NodeBytes("\x00\x00\x00\x3c"+string(make([]byte, 28)), d[3]))
}

// Nothing is shared: no call writes into what it was handed, and what it answers is its own.
func TestSharesNothing(t *testing.T) {
	whole := []byte("a row and what stands behind it")
	row := whole[:5]
	first := LeafBytes("key", row)
	second := LeafBytes("key", row)
	if string(whole) != "a row and what stands behind it" {
		t.Errorf("written into: %s", whole)
	}
	clear(first)
	if string(second) != "\x01\x00\x00\x00\x03keya row" || string(row) != "a row" {
		t.Errorf("%q, %q", second, row)
	}
	clear(whole)
	if string(second) != "\x01\x00\x00\x00\x03keya row" {
		t.Errorf("hangs on what was handed in: %q", second)
	}
	p, q := NodeBytes(digest(1), digest(2)), NodeBytes(digest(1), digest(2))
	clear(p)
	if string(q) != "\x02"+digest(1)+digest(2) {
		t.Errorf("%x", q)
	}
	p, q = LinkBytes(digest(1), digest(2), digest(3)), LinkBytes(digest(1), digest(2), digest(3))
	clear(p)
	if string(q) != "\x03"+digest(1)+digest(2)+digest(3) {
		t.Errorf("%x", q)
	}
	record := []byte("record")
	if Link(digest(1), digest(2), record) != Link(digest(1), digest(2), []byte("record")) || string(record) != "record" {
		t.Errorf("%s", record)
	}
}

// P1: digests that aren't 32 bytes long end without a panic, and the first byte still tells the kind.
func TestWrongDigests(t *testing.T) {
	for _, a := range []string{"", "x", strings.Repeat("y", 31), strings.Repeat("z", 33), strings.Repeat("w", 5000)} {
		for _, b := range []string{"", digest(1), strings.Repeat("v", 100)} {
			if p := NodeBytes(a, b); p[0] != 2 || Node(a, b) != sum(p) {
				t.Errorf("a node of %d and %d bytes: %x", len(a), len(b), p)
			}
			if p := LinkBytes(a, b, a); p[0] != 3 {
				t.Errorf("a link of %d and %d bytes: %x", len(a), len(b), p)
			}
			if len(Link(a, b, nil)) != sha.Size {
				t.Errorf("a link of %d and %d bytes", len(a), len(b))
			}
		}
	}
}

// The chapter's example: NodeBytes of two digests: 65 bytes, the first one 2.
func TestExample(t *testing.T) {
	if p := NodeBytes(digest(1), digest(2)); len(p) != 65 || p[0] != 2 {
		t.Errorf("%x", p)
	}
}
