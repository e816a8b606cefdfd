package table

import (
	"bytes"
	"fmt"
	"math"
	"slices"
	"strconv"
	"strings"
	"testing"

	"countinghouse/api"
	"countinghouse/order"
	"countinghouse/value"
)

func num(n int64) api.Value   { return api.Value{Kind: api.Int, N: n} }
func text(s string) api.Value { return api.Value{Kind: api.Text, S: s} }

func row(l ...api.Value) []api.Value { return l }

// show: how values begin; a long row whole would drown what a test tells.
func show(l []api.Value) string { return fmt.Sprintf("%.80q", fmt.Sprint(l)) }

// tables: of one key column, of two, of keys alone.
func tables() []api.Table {
	return []api.Table{
		{Name: "acct", Columns: []api.Column{{Name: "id", Kind: api.Int}, {Name: "owner", Kind: api.Text, Null: true}}, Keys: 1},
		{Name: "rate", Columns: []api.Column{{Name: "from", Kind: api.Text}, {Name: "to", Kind: api.Text}, {Name: "pips", Kind: api.Int}}, Keys: 2},
		{Name: "seen", Columns: []api.Column{{Name: "id", Kind: api.Text}}, Keys: 1},
	}
}

// columns: n of unlike names, Ints.
func columns(n int) []api.Column {
	var l []api.Column
	for i := range n {
		l = append(l, api.Column{Name: "c" + strconv.Itoa(i), Kind: api.Int})
	}
	return l
}

// many: n tables of unlike names.
func many(n int) []api.Table {
	var l []api.Table
	for i := range n {
		l = append(l, api.Table{Name: "t" + strconv.Itoa(i), Columns: columns(1), Keys: 1})
	}
	return l
}

// wrongValues: none is Right.
func wrongValues() []api.Value {
	return []api.Value{
		{N: 1}, {S: "a"}, {Kind: api.Int, S: "a"}, {Kind: api.Text, N: 1}, {Kind: api.Text, N: 1, S: "a"},
		text(strings.Repeat("a", api.MaxText+1)), {Kind: 3}, {Kind: 9, N: 4}, {Kind: 255, S: "a"},
	}
}

// rows: of values that are Right, of no table.
func rows() [][]api.Value {
	long := text(strings.Repeat("\x00", api.MaxText))
	return [][]api.Value{
		nil, {{}}, {{}, {}}, {num(0)}, {num(-1)}, {num(math.MinInt64), num(math.MaxInt64)},
		{text("")}, {text("\x00")}, {text("\x00\xff"), text("\x00\x01")}, {text("a"), {}, num(7)}, {num(7), {}, text("a")},
		{long}, {long, num(1), long}, slices.Repeat(row(num(5), text("x")), 4), slices.Repeat(row(long), 255),
	}
}

func wantRight(t *testing.T, what string, l []api.Table, want bool) {
	t.Helper()
	if got := Right(l); got != want {
		t.Errorf("%s: Right is %v", what, got)
	}
}

// P5.1: how many tables there may be, and of which names.
func TestRightTables(t *testing.T) {
	wantRight(t, "ordinary", tables(), true)
	wantRight(t, "nil", nil, false)
	wantRight(t, "empty", []api.Table{}, false)
	for n := range 3 * api.MaxTables {
		wantRight(t, strconv.Itoa(n)+" tables", many(n), n >= 1 && n <= api.MaxTables)
	}
	for at := range tables() {
		for _, c := range []struct {
			name string
			want bool
		}{
			{"", false}, {"x", true}, {"\x00", true}, {" ", true}, {"ACCT", true}, {"acc", true}, {"acct ", true},
			{strings.Repeat("n", api.MaxName), true}, {strings.Repeat("n", api.MaxName+1), false}, {strings.Repeat("n", 1<<16), false},
			// By bytes, not by runes.
			{strings.Repeat("é", api.MaxName/2), true}, {strings.Repeat("é", api.MaxName/2+1), false},
			// A column's name is another thing.
			{"id", true}, {"pips", true},
		} {
			l := tables()
			l[at].Name = c.name
			wantRight(t, "table "+strconv.Itoa(at)+" named "+strconv.Quote(c.name), l, c.want)
		}
	}
	for a := range api.MaxTables {
		for b := range api.MaxTables {
			l := many(api.MaxTables)
			l[a].Name = l[b].Name
			wantRight(t, "tables named alike", l, a == b)
		}
	}
}

// P5.1: how many columns there may be, and of which names.
func TestRightColumns(t *testing.T) {
	for at := range tables() {
		for n := range 3 * api.MaxColumns {
			l := tables()
			l[at].Columns, l[at].Keys = columns(n), 1
			wantRight(t, strconv.Itoa(n)+" columns", l, n >= 1 && n <= api.MaxColumns)
		}
		for a := range api.MaxColumns {
			for b := range api.MaxColumns {
				l := tables()
				l[at].Columns, l[at].Keys = columns(api.MaxColumns), 1
				l[at].Columns[a].Name = l[at].Columns[b].Name
				wantRight(t, "columns named alike", l, a == b)
			}
		}
		for _, c := range []struct {
			name string
			want bool
		}{
			{"", false}, {"x", true}, {strings.Repeat("n", api.MaxName), true}, {strings.Repeat("n", api.MaxName+1), false},
			{strings.Repeat("é", api.MaxName/2), true}, {strings.Repeat("é", api.MaxName/2+1), false}, {"rate", true},
		} {
			for i := range tables()[at].Columns {
				l := tables()
				l[at].Columns[i].Name = c.name
				wantRight(t, "column named "+strconv.Quote(c.name), l, c.want)
			}
		}
	}
}

// P5.1: a column is an Int or a Text.
func TestRightKinds(t *testing.T) {
	for at, x := range tables() {
		for i := range x.Columns {
			for kind := range 256 {
				l := tables()
				l[at].Columns[i].Kind = byte(kind)
				wantRight(t, "a column of kind "+strconv.Itoa(kind), l, kind == api.Int || kind == api.Text)
			}
		}
	}
}

// P5.1: how many Keys there may be, and that none of these columns may be nothing.
func TestRightKeys(t *testing.T) {
	for n := 1; n <= api.MaxColumns; n++ {
		for _, keys := range []int{math.MinInt, -1, 0, 1, 2, 3, 4, 5, 6, 7, 8, 9, math.MaxInt} {
			l := many(2)
			l[1].Columns, l[1].Keys = columns(n), keys
			right := keys >= 1 && keys <= n
			wantRight(t, strconv.Itoa(keys)+" Keys of "+strconv.Itoa(n), l, right)
			for null := range n {
				l[1].Columns = columns(n)
				l[1].Columns[null].Null = true
				wantRight(t, strconv.Itoa(keys)+" Keys, Null at "+strconv.Itoa(null), l, right && null >= keys)
			}
		}
	}
}

// P5.2: Check.
func TestCheck(t *testing.T) {
	wrong := api.Value{Kind: 9}
	long := text(strings.Repeat("x", api.MaxText))
	tooLong := text(strings.Repeat("x", api.MaxText+1))
	for _, c := range []struct {
		t    int
		row  []api.Value
		want api.Errno
	}{
		{0, row(num(5), text("x")), api.OK},
		{0, row(num(math.MinInt64), text("")), api.OK},
		{0, row(num(0), api.Value{}), api.OK},
		{0, row(num(0), long), api.OK},
		{1, row(text(""), text(""), num(0)), api.OK},
		{2, row(text("\x00")), api.OK},
		// There is no such table: ahead of all else.
		{3, row(num(5), text("x")), api.ErrNone}, {-1, row(num(5), text("x")), api.ErrNone}, {3, nil, api.ErrNone}, {-1, row(wrong), api.ErrNone},
		{math.MaxInt, nil, api.ErrNone}, {math.MinInt, nil, api.ErrNone}, {256, row(num(5), text("x")), api.ErrNone},
		// More or fewer values: ahead of what these are.
		{0, nil, api.ErrArg}, {0, row(num(5)), api.ErrArg}, {0, row(num(5), text("x"), num(1)), api.ErrArg}, {0, row(num(5), text("x"), api.Value{}), api.ErrArg},
		{0, row(wrong), api.ErrArg}, {0, row(text("a"), wrong, wrong), api.ErrArg}, {1, row(text("a"), text("b")), api.ErrArg}, {2, row(), api.ErrArg},
		// Not Right.
		{0, row(api.Value{Kind: api.Int, S: "a"}, text("x")), api.ErrForm}, {0, row(num(5), tooLong), api.ErrForm}, {0, row(num(5), api.Value{N: 1}), api.ErrForm},
		{0, row(wrong, text("x")), api.ErrForm}, {2, row(tooLong), api.ErrForm}, {2, row(api.Value{S: "a"}), api.ErrForm},
		// Nothing where that may not be.
		{0, row(api.Value{}, text("x")), api.ErrKind}, {0, row(api.Value{}, api.Value{}), api.ErrKind}, {1, row(text("a"), text("b"), api.Value{}), api.ErrKind},
		// Another kind.
		{0, row(text("5"), text("x")), api.ErrKind}, {0, row(num(5), num(5)), api.ErrKind}, {1, row(text("a"), num(1), num(1)), api.ErrKind}, {1, row(text("a"), text("b"), text("1")), api.ErrKind}, {2, row(num(0)), api.ErrKind},
		// Value by value: the first one that is wrong decides.
		{0, row(text("5"), wrong), api.ErrKind}, {0, row(api.Value{}, wrong), api.ErrKind}, {0, row(wrong, num(5)), api.ErrForm},
		{1, row(text("a"), num(1), wrong), api.ErrKind}, {1, row(text("a"), wrong, text("1")), api.ErrForm},
	} {
		if got := Check(tables(), c.t, c.row); got != c.want {
			t.Errorf("Check(%d, %s): %d, not %d", c.t, show(c.row), got, c.want)
		}
	}
}

// P5.2: a value that isn't Right is ErrForm wherever it stands, of whatever kind.
func TestCheckWrongValues(t *testing.T) {
	right := [][]api.Value{{num(5), text("x")}, {text("a"), text("b"), num(1)}, {text("a")}}
	for at, l := range right {
		for i := range l {
			for _, v := range wrongValues() {
				x := slices.Clone(l)
				x[i] = v
				if e := Check(tables(), at, x); e != api.ErrForm {
					t.Errorf("Check(%d, %s): %d", at, show(x), e)
				}
				want := api.OK
				if i < tables()[at].Keys {
					want = api.ErrForm
				}
				if e := CheckKey(tables(), at, x[:tables()[at].Keys]); e != want {
					t.Errorf("CheckKey(%d, %s): %d, not %d", at, show(x), e, want)
				}
			}
		}
	}
}

// P5.2: CheckKey is of the first Keys values alone.
func TestCheckKey(t *testing.T) {
	wrong := api.Value{Kind: 9}
	for _, c := range []struct {
		t    int
		key  []api.Value
		want api.Errno
	}{
		{0, row(num(5)), api.OK}, {1, row(text("a"), text("b")), api.OK}, {2, row(text("")), api.OK},
		{3, row(num(5)), api.ErrNone}, {-1, nil, api.ErrNone}, {math.MaxInt, row(wrong), api.ErrNone}, {math.MinInt, nil, api.ErrNone},
		{0, nil, api.ErrArg}, {0, row(num(5), text("x")), api.ErrArg}, {0, row(wrong, wrong), api.ErrArg},
		{1, row(text("a")), api.ErrArg}, {1, row(text("a"), text("b"), num(1)), api.ErrArg}, {1, row(wrong), api.ErrArg},
		{0, row(wrong), api.ErrForm}, {1, row(text("a"), wrong), api.ErrForm}, {1, row(wrong, num(1)), api.ErrForm},
		{0, row(api.Value{}), api.ErrKind}, {0, row(text("a")), api.ErrKind}, {1, row(text("a"), api.Value{}), api.ErrKind}, {1, row(num(1), wrong), api.ErrKind}, {2, row(num(1)), api.ErrKind},
	} {
		if got := CheckKey(tables(), c.t, c.key); got != c.want {
			t.Errorf("CheckKey(%d, %s): %d, not %d", c.t, show(c.key), got, c.want)
		}
	}
}

// P5.2: Key.
func TestKey(t *testing.T) {
	for _, c := range []struct {
		t    int
		key  []api.Value
		want string
	}{
		{0, nil, "\x00"},
		{1, row(num(0)), "\x01\x02\x80\x00\x00\x00\x00\x00\x00\x00"},
		{2, row(text("a\x00"), num(-1)), "\x02\x03a\x00\xff\x00\x01\x02\x7f\xff\xff\xff\xff\xff\xff\xff"},
		{3, row(api.Value{}), "\x03\x01"},
	} {
		if got := Key(c.t, c.key); got != c.want {
			t.Errorf("Key(%d, %s): %x, not %x", c.t, show(c.key), got, c.want)
		}
	}
	for n := range api.MaxTables {
		for _, l := range rows() {
			if got, want := Key(n, l), string(rune(n))+string(order.Key(l)); got != want {
				t.Errorf("Key(%d, %s): %.80x, not %.80x", n, show(l), got, want)
			}
		}
	}
}

// P5.2: KeyOf is Key of the first Keys values, whatever stands behind them.
func TestKeyOf(t *testing.T) {
	for _, c := range []struct {
		t    int
		row  []api.Value
		want string
	}{
		{0, row(num(5), text("x")), Key(0, row(num(5)))},
		{0, row(num(5), api.Value{}), Key(0, row(num(5)))},
		{1, row(text("a"), text("b"), num(7)), Key(1, row(text("a"), text("b")))},
		{1, row(text("a"), text("b"), num(8)), "\x01\x03a\x00\x01\x03b\x00\x01"},
		{2, row(text("a")), "\x02\x03a\x00\x01"},
	} {
		if Check(tables(), c.t, c.row) != api.OK {
			t.Fatalf("%v isn't a row of %d", c.row, c.t)
		}
		if got := KeyOf(tables(), c.t, c.row); got != c.want {
			t.Errorf("KeyOf(%d, %s): %x, not %x", c.t, show(c.row), got, c.want)
		}
	}
}

// P5.2: Split tells of what a text is the Key.
func TestSplitOfKey(t *testing.T) {
	for n := range 256 {
		for _, want := range rows()[:11] {
			got, l, e := Split(Key(n, want))
			if got != n || !slices.Equal(l, want) || e != api.OK {
				t.Fatalf("Split of Key(%d, %s): %d, %s, %d", n, show(want), got, show(l), e)
			}
		}
	}
	for _, want := range rows() {
		if n, l, e := Split(Key(3, want)); n != 3 || !slices.Equal(l, want) || e != api.OK {
			t.Errorf("Split of Key(3, %s): %d, %s, %d", show(want), n, show(l), e)
		}
	}
}

// P5.2: texts that are no Key.
func TestSplitErrors(t *testing.T) {
	for _, c := range []struct {
		key  string
		want api.Errno
	}{
		{"", api.ErrShort},
		{"\x01\x00", api.ErrForm}, {"\x01\x04", api.ErrForm}, {"\x00\x09", api.ErrForm}, {"\x01\x02", api.ErrForm}, {"\x01\x02\x80\x00\x00\x00\x00\x00\x00", api.ErrForm},
		{"\x01\x03a", api.ErrForm}, {"\x01\x03a\x00", api.ErrForm}, {"\x01\x03a\x00\x02", api.ErrForm}, {"\x01\x01\x01\xff", api.ErrForm},
		{"\x01\x03" + strings.Repeat("a", api.MaxText+1) + "\x00\x01", api.ErrForm},
	} {
		if n, l, e := Split(c.key); n != 0 || len(l) != 0 || e != c.want {
			t.Errorf("Split(%.80x): %d, %s, %d: not error %d", c.key, n, show(l), e, c.want)
		}
	}
}

// P5.3: Pack.
func TestPack(t *testing.T) {
	for _, c := range []struct {
		row  []api.Value
		want string
	}{
		{nil, "\x00"},
		{row(), "\x00"},
		{row(api.Value{}), "\x01\x00"},
		{row(num(-2), api.Value{}, text("ab")), "\x03\x01\xff\xff\xff\xff\xff\xff\xff\xfe\x00\x02\x00\x02ab"},
		{slices.Repeat(row(api.Value{}), 128), "\x80" + strings.Repeat("\x00", 128)},
		{slices.Repeat(row(api.Value{}), 255), "\xff" + strings.Repeat("\x00", 255)},
	} {
		if got := Pack(c.row); string(got) != c.want {
			t.Errorf("Pack(%s): %.80x, not %.80x", show(c.row), got, c.want)
		}
	}
	for _, l := range rows() {
		want := []byte{byte(len(l))}
		for _, v := range l {
			want = append(want, value.Encode(v)...)
		}
		if got := Pack(l); !bytes.Equal(got, want) {
			t.Errorf("Pack(%s): %.80x", show(l), got)
		}
	}
}

// P5.3: Unpack tells what was Packed.
func TestUnpackOfPack(t *testing.T) {
	for _, want := range append(rows(), slices.Repeat(row(api.Value{}), 255)) {
		got, e := Unpack(Pack(want))
		if !slices.Equal(got, want) || e != api.OK {
			t.Errorf("Unpack of Pack(%s): %s, %d", show(want), show(got), e)
		}
	}
}

func wantUnpackError(t *testing.T, p []byte, want api.Errno) {
	t.Helper()
	if l, e := Unpack(p); len(l) != 0 || e != want {
		t.Errorf("Unpack(%.80x): %s, %d: not error %d", p, show(l), e, want)
	}
}

// P5.3: bytes that are no row.
func TestUnpackErrors(t *testing.T) {
	tooLong := "\x02\x00\xc9" + strings.Repeat("a", api.MaxText+1)
	for _, c := range []struct {
		p    string
		want api.Errno
	}{
		{"", api.ErrShort},
		{"\x01", api.ErrShort}, {"\x02\x00", api.ErrShort}, {"\xff", api.ErrShort}, {"\x01\x01\x00", api.ErrShort}, {"\x01\x02\x00\x02a", api.ErrShort}, {"\xff" + strings.Repeat("\x00", 254), api.ErrShort},
		{"\x01\x03", api.ErrForm}, {"\x01" + tooLong, api.ErrForm}, {"\x02\x00" + tooLong, api.ErrForm},
		// The first error is told, of what stands behind it nothing.
		{"\x02\x05\x01", api.ErrForm}, {"\x03\x00\x09", api.ErrForm}, {"\x02\x00\x01\x05", api.ErrShort},
		// Some are left; but an error ahead of them is told first.
		{"\x00\x00", api.ErrForm}, {"\x00\x02", api.ErrForm}, {"\x01\x00\x00", api.ErrForm}, {"\x01\x00\x01", api.ErrForm}, {"\x01\x00" + strings.Repeat("x", 300), api.ErrForm}, {"\xff" + strings.Repeat("\x00", 256), api.ErrForm},
	} {
		wantUnpackError(t, []byte(c.p), c.want)
	}
	wantUnpackError(t, nil, api.ErrShort)
	for _, l := range rows()[:11] {
		p := Pack(l)
		for n := range p {
			wantUnpackError(t, p[:n], api.ErrShort)
		}
		wantUnpackError(t, append(p, 0), api.ErrForm)
	}
}

// P5.3: what Unpack allows is what Pack writes: of all texts of up to 6 bytes out of seven that decide something.
func TestUnpackAllowsPackedAlone(t *testing.T) {
	var all func(p []byte, left int)
	all = func(p []byte, left int) {
		l, e := Unpack(p)
		if e == api.OK && !bytes.Equal(Pack(l), p) || e != api.OK && len(l) != 0 {
			t.Fatalf("Unpack(%x): %s, %d", p, show(l), e)
		}
		if left == 0 {
			return
		}
		for _, b := range []byte{0, 1, 2, 3, 'a', 0xc8, 0xff} {
			all(append(bytes.Clone(p), b), left-1)
		}
	}
	all(nil, 6)
}

// P5.3: Same, of values that aren't Right, too.
func TestSame(t *testing.T) {
	all := append(rows(), row(num(1)), row(num(1), num(2)), row(num(2), num(1)), row(text("1")), wrongValues(), wrongValues()[1:], wrongValues()[:5])
	for i, a := range all {
		for k, b := range all {
			if got := Same(a, slices.Clone(b)); got != (i == k) {
				t.Errorf("Same(%s, %s) is %v", show(a), show(b), got)
			}
		}
	}
	if !Same(nil, []api.Value{}) || !Same([]api.Value{}, nil) {
		t.Error("rows of nothing aren't the Same")
	}
	for i := range 8 {
		a, b := slices.Repeat(row(num(5)), 8), slices.Repeat(row(num(5)), 8)
		b[i] = num(6)
		if Same(a, b) || Same(b, a) {
			t.Errorf("Same, but for place %d", i)
		}
	}
}

// Nothing is shared: no call writes into what it was handed, also behind its end, and what it answers is its own.
func TestSharesNothing(t *testing.T) {
	whole := row(text("a"), text("b"), num(7), num(8))
	before := slices.Clone(whole)
	l := tables()
	Right(l)
	Check(l, 1, whole[:3])
	CheckKey(l, 1, whole[:2])
	key, p := KeyOf(l, 1, whole[:3]), Pack(whole[:3])
	Key(1, whole[:2])
	Same(whole[:2], whole[:3])
	if !slices.Equal(whole, before) {
		t.Errorf("written into: %v", whole)
	}
	for i, x := range tables() {
		if l[i].Name != x.Name || l[i].Keys != x.Keys || !slices.Equal(l[i].Columns, x.Columns) {
			t.Errorf("written into: %v", l[i])
		}
	}
	clear(whole)
	again := bytes.Clone(p)
	got, _ := Unpack(p)
	if !bytes.Equal(p, again) {
		t.Errorf("written into: %x", p)
	}
	clear(p)
	if !slices.Equal(got, before[:3]) || key != Key(1, before[:2]) {
		t.Errorf("%v, %x: hang on what was handed in", got, key)
	}
	if q := Pack(before[:3]); !bytes.Equal(q, again) {
		t.Errorf("Pack is another one the second time: %x", q)
	}
}

// P1: no call panics, of tables that aren't Right, of rows that no table has, or of any number.
func TestNoPanic(t *testing.T) {
	wild := []api.Table{
		{}, {Keys: 5}, {Keys: -1, Columns: columns(2)}, {Keys: 3, Columns: columns(2)}, {Keys: math.MaxInt, Columns: columns(20)}, {Keys: math.MinInt, Columns: columns(1)},
		{Name: strings.Repeat("x", 1<<16), Columns: []api.Column{{Kind: 255, Null: true}}, Keys: 1},
	}
	all := append(rows(), wrongValues(), slices.Repeat(row(num(1)), 300))
	for _, l := range [][]api.Table{nil, {}, wild, tables(), many(300)} {
		Right(l)
		for _, n := range []int{math.MinInt, -257, -256, -1, 0, 1, 2, 3, 4, 5, 6, 7, 255, 256, 299, 300, math.MaxInt} {
			for _, x := range all {
				Check(l, n, x)
				CheckKey(l, n, x)
				KeyOf(l, n, x)
				Split(Key(n, x))
				Unpack(Pack(x))
			}
		}
	}
	for a := range 256 {
		for b := range 256 {
			Split(string([]byte{byte(a), byte(b)}))
			Split(string([]byte{1, 3, byte(a), byte(b)}))
			Unpack([]byte{byte(a), byte(b)})
			Unpack([]byte{2, byte(a), 0, byte(b)})
		}
	}
}

// The chapter's examples.
func TestExamples(t *testing.T) {
	if p := Pack(nil); string(p) != "\x00" {
		t.Errorf("%x", p)
	}
	if k := Key(1, row(num(0))); !strings.HasPrefix(k, "\x01\x02\x80") {
		t.Errorf("%x", k)
	}
}
