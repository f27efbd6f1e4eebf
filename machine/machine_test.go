package machine

import (
	"testing"

	"rowmill/api"
	"rowmill/syntax"
)

// read gives the value that a text is.
func read(t *testing.T, text string) *syntax.Value {
	t.Helper()
	s, ok := syntax.Read("INSERT INTO t VALUES (" + text + ")")
	if !ok {
		t.Fatalf("%q is no value", text)
	}
	return s.(*syntax.Insert).Values[0]
}

var columns = []Column{
	{"x", "a", api.Int}, {"x", "b", api.Text}, {"x", "c", api.Bool},
	{"y", "a", api.Int}, {"y", "d", api.Text}, {"y", "x", api.Bool},
}

var row = []api.Value{whole(10), word("ten"), truth(true), {}, word(""), truth(false)}

func whole(n int) api.Value   { return api.Value{Kind: api.Int, N: n} }
func word(s string) api.Value { return api.Value{Kind: api.Text, S: s} }

func TestColumns(t *testing.T) {
	for text, want := range map[string]api.Value{
		"x.a": whole(10), "y.a": {}, "b": word("ten"), "d": word(""), "x.b": word("ten"), "c": truth(true), "x": truth(false), "y.x": truth(false),
		"x.a + 1": whole(11), "y.a + 1": {}, "y.a IS NULL": truth(true), "c AND x": truth(false), "x OR c": truth(true), "b > d": truth(true), "x.a = y.a": {}, "c AND y.a = 1": {}, "-x.a": whole(-10),
	} {
		p, gives, errno := Compile(read(t, text), columns)
		if errno != api.OK {
			t.Errorf("Compile(%q): %d", text, errno)
			continue
		}
		got, errno := p.Run(row)
		if errno != api.OK || got != want || !alike(gives, got.Kind) {
			t.Errorf("%q of type %d: %v, %d, want %v", text, gives, got, errno, want)
		}
	}
}

func TestNoColumns(t *testing.T) {
	for _, text := range []string{"a", "A", "x.d", "z.a", "X.a", "e", "x.e", "x.x", "y.y", "a + 1", "1 + a", "NOT a", "a IS NULL", "FALSE AND a", "TRUE OR z", "b = z"} {
		if p, gives, errno := Compile(read(t, text), columns); errno != api.ErrName || gives != 0 || p.code != nil {
			t.Errorf("Compile(%q): %v, %d, %d, want ErrName", text, p, gives, errno)
		}
	}
	for _, text := range []string{"b", "x.a", "TRUE OR b"} {
		if _, _, errno := Compile(read(t, text), nil); errno != api.ErrName {
			t.Errorf("Compile(%q) without columns: %d, want ErrName", text, errno)
		}
	}
}

func TestTypes(t *testing.T) {
	for text, want := range map[string]int{
		"1": api.Int, "'x'": api.Text, "TRUE": api.Bool, "NULL": api.Null, "(NULL)": api.Null, "y.a": api.Int, "d": api.Text, "c": api.Bool,
		"NULL + NULL": api.Int, "NULL - 1": api.Int, "1 * NULL": api.Int, "1 / 2": api.Int, "1 % 2": api.Int, "-NULL": api.Int, "- - 1": api.Int,
		"NULL = NULL": api.Bool, "1 = NULL": api.Bool, "NULL < 'x'": api.Bool, "TRUE >= FALSE": api.Bool, "'x' <> 'y'": api.Bool,
		"NULL AND NULL": api.Bool, "NULL OR TRUE": api.Bool, "NOT NULL": api.Bool, "NULL IS NULL": api.Bool, "1 IS NULL": api.Bool, "'x' IS NOT NULL": api.Bool, "(1 = 1) IS NULL": api.Bool,
	} {
		_, got, errno := Compile(read(t, text), columns)
		if errno != api.OK || got != want {
			t.Errorf("the type of %q: %d, %d, want %d", text, got, errno, want)
		}
		for _, as := range []int{api.Int, api.Text, api.Bool} {
			expected := api.OK
			if want != api.Null && want != as {
				expected = api.ErrType
			}
			p, errno := CompileAs(read(t, text), columns, as)
			if errno != expected || (errno == api.OK) != (p.code != nil) {
				t.Errorf("%q as type %d: %v, %d, want %d", text, as, p, errno, expected)
			}
		}
	}
}

// TestWrongTypes: what stands in something is looked at ahead of that, from the left.
func TestWrongTypes(t *testing.T) {
	for text, want := range map[string]api.Errno{
		"1 + 'x'": api.ErrType, "'x' + 1": api.ErrType, "TRUE - 1": api.ErrType, "1 * TRUE": api.ErrType, "'x' / 'y'": api.ErrType, "b % 1": api.ErrType, "NULL + 'x'": api.ErrType, "TRUE + NULL": api.ErrType,
		"-'x'": api.ErrType, "-TRUE": api.ErrType, "-(1 = 1)": api.ErrType, "NOT 1": api.ErrType, "NOT 'x'": api.ErrType, "NOT -NULL": api.ErrType,
		"1 = 'x'": api.ErrType, "TRUE <> 1": api.ErrType, "'x' < TRUE": api.ErrType, "1 <= TRUE": api.ErrType, "'1' > 1": api.ErrType, "c >= b": api.ErrType, "-NULL = 'x'": api.ErrType, "(NULL = 1) = 1": api.ErrType,
		"1 AND TRUE": api.ErrType, "TRUE AND 1": api.ErrType, "'x' OR TRUE": api.ErrType, "TRUE OR 'x'": api.ErrType, "NULL OR 1": api.ErrType, "NULL AND 'x'": api.ErrType, "FALSE AND 1": api.ErrType, "1 AND NULL": api.ErrType,
		"(1 + TRUE) IS NULL": api.ErrType, "1 / 0 + 'x'": api.ErrType,
		"TRUE + z": api.ErrName, "z + TRUE": api.ErrName, "TRUE + 1 + z": api.ErrType, "1 + z + TRUE": api.ErrName, "-TRUE + z": api.ErrType, "z + -TRUE": api.ErrName, "1 = 'x' AND z": api.ErrType, "z AND 1 = 'x'": api.ErrName,
		"1 AND TRUE AND z": api.ErrType, "1 OR z": api.ErrName, "1 OR TRUE OR z": api.ErrType, "1 = z": api.ErrName, "NOT z": api.ErrName, "NOT 1 OR z": api.ErrType, "1 + (z + TRUE)": api.ErrName, "1 + (TRUE + 1) + z": api.ErrType,
	} {
		if p, gives, errno := Compile(read(t, text), columns); errno != want || gives != 0 || p.code != nil {
			t.Errorf("Compile(%q): %v, %d, %d, want %d", text, p, gives, errno, want)
		}
		if _, errno := CompileAs(read(t, text), columns, api.Text); errno != want {
			t.Errorf("CompileAs(%q): %d, want %d", text, errno, want)
		}
	}
}

// TestRowsUnchanged: a program may be run again, and leaves the row as it was.
func TestRowsUnchanged(t *testing.T) {
	p, _, _ := Compile(read(t, "x.a * 2 - x.a = 10 AND NOT (c AND x) OR 1 / y.a = 0"), columns)
	before := append([]api.Value{}, row...)
	for range 3 {
		if got, errno := p.Run(row); got != truth(true) || errno != api.OK {
			t.Errorf("Run: %v, %d", got, errno)
		}
	}
	for i := range row {
		if row[i] != before[i] {
			t.Errorf("Run has changed the row: %v, before %v", row, before)
		}
	}
}

// TestJumps: what is not reckoned has no error; what is reckoned has, from the left.
func TestJumps(t *testing.T) {
	for text, want := range map[string]api.Errno{
		"FALSE AND 1 / 0 = 1": api.OK, "TRUE OR 1 / 0 = 1": api.OK, "FALSE AND 1 / 0 = 1 OR TRUE": api.OK, "(TRUE OR 1 / 0 = 1) AND TRUE": api.OK, "FALSE AND (1 / 0 = 1 OR 1 % 0 = 1)": api.OK, "NOT (FALSE AND 1 / 0 = 1) OR 1 / 0 = 1": api.OK, "TRUE AND FALSE AND 1 / 0 = 1": api.OK, "FALSE AND NULL AND 1 / 0 = 1": api.OK, "NULL AND FALSE AND 1 / 0 = 1": api.OK, "NULL OR TRUE OR 1 / 0 = 1": api.OK,
		"TRUE AND 1 / 0 = 1": api.ErrZero, "NULL AND 1 / 0 = 1": api.ErrZero, "FALSE OR 1 / 0 = 1": api.ErrZero, "NULL OR 1 / 0 = 1": api.ErrZero, "1 / 0 = 1 AND FALSE": api.ErrZero, "1 / 0 = 1 OR TRUE": api.ErrZero, "FALSE AND TRUE OR 1 / 0 = 1": api.ErrZero, "(TRUE OR TRUE) AND 1 / 0 = 1": api.ErrZero, "FALSE AND (1 / 0 = 1) OR 1 / 0 = 1": api.ErrZero,
		"NULL = 1 / 0": api.ErrZero, "1 / 0 = NULL": api.ErrZero, "NULL + 1 / 0 IS NULL": api.ErrZero, "(1 / 0) IS NULL": api.ErrZero, "NULL / 0 IS NULL": api.OK, "0 / NULL IS NULL": api.OK, "NULL % 0 IS NULL": api.OK,
		"1 / 0 = 9223372036854775807 + 1": api.ErrZero, "9223372036854775807 + 1 = 1 / 0": api.ErrRange,
	} {
		p, _, errno := Compile(read(t, text), nil)
		if errno != api.OK {
			t.Fatalf("Compile(%q): %d", text, errno)
		}
		if v, errno := p.Run(nil); errno != want || errno != api.OK && v != (api.Value{}) {
			t.Errorf("Run of %q: %v, %d, want %d", text, v, errno, want)
		}
	}
}

// TestOrder: all pairs of values that stand in their order here.
func TestOrder(t *testing.T) {
	for _, all := range [][]api.Value{
		{{}, whole(-1 << 63), whole(-2), whole(-1), whole(0), whole(1), whole(10), whole(1<<63 - 1)},
		{{}, word(""), word("\x00"), word("1"), word("10"), word("9"), word("B"), word("a"), word("aa"), word("ab"), word("b"), word("\xff")},
		{{}, truth(false), truth(true)},
	} {
		for i, left := range all {
			for k, right := range all {
				if got := Order(left, right); got < 0 != (i < k) || got > 0 != (i > k) {
					t.Errorf("Order(%v, %v): %d", left, right, got)
				}
			}
		}
	}
}

// TestHolds: what is FALSE or NULL does not; nor does what has an error.
func TestHolds(t *testing.T) {
	for text, want := range map[string]bool{"TRUE": true, "FALSE": false, "NULL": false, "c": true, "x": false, "x.a = 10": true, "y.a = 10": false, "y.a IS NULL": true} {
		p, _ := CompileAs(read(t, text), columns, api.Bool)
		if got, errno := p.Holds(row); got != want || errno != api.OK {
			t.Errorf("%q: %t, %d, want %t", text, got, errno, want)
		}
	}
	p, _ := CompileAs(read(t, "c AND 1 / 0 = 1"), columns, api.Bool)
	if got, errno := p.Holds(row); got || errno != api.ErrZero {
		t.Errorf("%t, %d, want ErrZero", got, errno)
	}
}
