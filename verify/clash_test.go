package verify

import (
	"bytes"
	"encoding/json"
	"fmt"
	"os"
	"os/exec"
	"path/filepath"
	"strings"
	"testing"

	"countinghouse/proof"
	"countinghouse/sha"
)

// weakSums is set where TestWeakSums runs on weakSha.
const weakSums = "COUNTINGHOUSE_WEAK_SUMS"

// weakSha has sums of which three bits are left, the last one among them: nobody can tell unlike texts with one sum of the real ones.
const weakSha = `package sha

import (
	"crypto/sha256"
	"encoding/hex"
)

const Size = 32

func Sum(p []byte) string {
	d := sha256.Sum256(p)
	var weak [Size]byte
	weak[0], weak[Size-1] = d[0]&0xc0, d[Size-1]&1
	return string(weak[:])
}

func Bit(d string, i int) int { return int(d[i/8]>>(7-i%8)) & 1 }

func Hex(d string) string { return hex.EncodeToString([]byte(d)) }
`

// P11.3: Clash, with weakSha laid over package sha.
func TestClash(t *testing.T) {
	strong, err := filepath.Abs("../sha/sha.go")
	if err != nil {
		t.Fatal(err)
	}
	weak := filepath.Join(t.TempDir(), "sha.go")
	if err := os.WriteFile(weak, []byte(weakSha), 0o644); err != nil {
		t.Fatal(err)
	}
	over, err := json.Marshal(map[string]map[string]string{"Replace": {strong: weak}})
	if err != nil {
		t.Fatal(err)
	}
	overlay := filepath.Join(t.TempDir(), "overlay.json")
	if err := os.WriteFile(overlay, over, 0o644); err != nil {
		t.Fatal(err)
	}
	c := exec.Command("go", "test", "-v", "-overlay="+overlay, "-run=^TestWeakSums$", ".")
	c.Env = append(os.Environ(), weakSums+"=1")
	out, err := c.CombinedOutput()
	if err != nil || !strings.Contains(string(out), "--- PASS: TestWeakSums") {
		t.Errorf("%v: %s", err, out)
	}
}

// TestWeakSums is run by TestClash.
func TestWeakSums(t *testing.T) {
	if os.Getenv(weakSums) == "" {
		t.Skip("TestClash runs it")
	}
	for _, key := range []string{"", "k", "key", "o"} {
		clashes(t, key)
	}
	lastBit(t)
}

// view is laid bytes, what is hashed of them, and what they show of a key.
type view struct {
	q      []byte
	steps  [][]byte
	digest string
	shown  []answer
}

// views are those of all proofs of up to two Sides out of two, two rows and two other keys, linked in two ways; and of bytes that aren't laid.
func views(t *testing.T, key string) []view {
	l := []view{{}, {q: []byte("no proof")}}
	x, y := sha.Sum([]byte("x")), sha.Sum([]byte("y"))
	for _, side := range [][]string{nil, {x}, {y}, {x, x}, {x, y}, {y, x}, {y, y}} {
		ends := []proof.Proof{{}}
		for _, row := range []string{"", "1", "22"} {
			ends = append(ends, proof.Proof{Kind: proof.Own, Row: []byte(row)})
			for _, other := range []string{"o", "pp", key} {
				ends = append(ends, proof.Proof{Kind: proof.Other, Key: other, Row: []byte(row)})
			}
		}
		for _, p := range ends {
			p.Side = side
			for _, last := range []string{x, y} {
				l = append(l, viewOf(t, key, Lay(last, x, p)))
			}
		}
	}
	return l
}

func viewOf(t *testing.T, key string, q []byte) view {
	steps, ok := Steps(key, q)
	if !ok {
		t.Fatalf("no Steps: %x", q)
	}
	v := view{q: q, steps: steps, digest: sha.Sum(steps[0])}
	for _, a := range []answer{{"", false}, {"", true}, {"1", true}, {"22", true}} {
		if Check(v.digest, key, []byte(a.row), a.there, q) {
			v.shown = append(v.shown, a)
		}
	}
	if len(v.shown) > 1 {
		t.Errorf("shown at once of %q: %v: by %x", key, v.shown, q)
	}
	return v
}

// firstClash is the place that the chapter names; -1: there is none.
func firstClash(a, b [][]byte) int {
	for i := 0; i < len(a) && i < len(b); i++ {
		if string(a[i]) != string(b[i]) && sha.Sum(a[i]) == sha.Sum(b[i]) {
			return i
		}
	}
	return -1
}

// clashes holds Clash, of each two of the views of a key, against what the chapter says.
func clashes(t *testing.T, key string) {
	places := map[int]int{}
	pairs := map[string]int{}
	l := views(t, key)
	for _, v := range l {
		for _, w := range l {
			at := firstClash(v.steps, w.steps)
			places[at]++
			a, b, ok := Clash(key, v.q, w.q)
			if ok != (at >= 0) {
				t.Fatalf("Clash of %q, %x, %x: %t, at %d", key, v.q, w.q, ok, at)
			}
			if ok && (!bytes.Equal(a, v.steps[at]) || !bytes.Equal(b, w.steps[at])) || !ok && len(a)+len(b) > 0 {
				t.Fatalf("Clash of %q, %x, %x: %x, %x: not at %d", key, v.q, w.q, a, b, at)
			}
			if v.digest != w.digest || len(v.shown) == 0 || len(w.shown) == 0 || v.shown[0] == w.shown[0] {
				continue
			}
			pairs[fmt.Sprint(v.shown[0].there, w.shown[0].there)]++
			if !ok {
				t.Fatalf("unlike answers of %q behind one digest, and no Clash: %x, %x", key, v.q, w.q)
			}
		}
	}
	for at := -1; at < 4; at++ {
		if places[at] == 0 {
			t.Errorf("of %q none clash at %d: %v", key, at, places)
		}
	}
	if pairs["true true"] == 0 || pairs["true false"] == 0 || pairs["false true"] == 0 {
		t.Errorf("of %q too few unlike answers: %v", key, pairs)
	}
}

// lastBit: that another key's leaf belongs there hangs on as many bits as there are Sides, up to the last one of a sum.
func lastBit(t *testing.T) {
	key, rest := "key", sha.Sum([]byte("key"))
	tried := map[string]int{}
	for i := range 200 {
		other := fmt.Sprint(i)
		d := sha.Sum([]byte(other))
		if d[:sha.Size-1] != rest[:sha.Size-1] {
			continue
		}
		for n, want := range map[int]bool{254: true, 255: true, 256: d == rest} {
			p := proof.Proof{Side: make([]string, n), Kind: proof.Other, Key: other}
			for i := range p.Side {
				p.Side[i] = d
			}
			v := viewOf(t, key, Lay(d, d, p))
			tried[fmt.Sprint(n, want)]++
			if (len(v.shown) == 1 && v.shown[0] == answer{}) != want {
				t.Errorf("that %q isn't there, by a leaf of %q beside %d Sides: %v", key, other, n, v.shown)
			}
		}
	}
	if tried["256 true"] == 0 || tried["256 false"] == 0 {
		t.Errorf("tried: %v", tried)
	}
}
