package rowmill

import (
	"fmt"
	"strings"
	"testing"

	"rowmill/api"
)

// does: a statement is done, and tells no rows.
func does(t *testing.T, d *DB, count int, statements ...string) {
	t.Helper()
	for _, s := range statements {
		r, errno := d.Exec(s)
		if errno != api.OK || r.Count != count || len(r.Rows) != 0 {
			t.Errorf("Exec(%q): %v, %d, want a count of %d", s, r, errno, count)
		}
	}
}

// refused: a statement has an error, no other result, and has changed nothing.
func refused(t *testing.T, d *DB, want api.Errno, statements ...string) {
	t.Helper()
	for _, s := range statements {
		before := d.Save()
		r, errno := d.Exec(s)
		if errno != want || r.Count != 0 || r.Rows != nil {
			t.Errorf("Exec(%.80q): %v, %d, want %d", s, r, errno, want)
		}
		if d.Save() != before {
			t.Errorf("Exec(%.80q) has changed something", s)
		}
	}
}

func saved(t *testing.T, d *DB, lines ...string) {
	t.Helper()
	want := ""
	for _, line := range lines {
		want += line + "\n"
	}
	if got := d.Save(); got != want {
		t.Errorf("Save: %q, want %q", got, want)
	}
}

// opened is a database with a table of each type, and one with all of them.
func opened(t *testing.T) *DB {
	t.Helper()
	d := New()
	does(t, d, 0, "CREATE TABLE n (a INT)", "CREATE TABLE s (a TEXT)", "CREATE TABLE b (a BOOL)", "CREATE TABLE m (a INT, b TEXT, c BOOL)")
	return d
}

func TestNew(t *testing.T) {
	d := New()
	saved(t, d)
	refused(t, d, api.ErrName, "INSERT INTO t VALUES (1)")
}

func TestCreate(t *testing.T) {
	d := New()
	does(t, d, 0, "CREATE TABLE t (a INT, b TEXT)", "create Table T(t Bool);", "CREATE TABLE _123456789 (A INT, a INT, _a TEXT, abcdefghij BOOL, e INT)")
	saved(t, d, "CREATE TABLE t (a INT, b TEXT)", "CREATE TABLE T (t BOOL)", "CREATE TABLE _123456789 (A INT, a INT, _a TEXT, abcdefghij BOOL, e INT)")
	refused(t, d, api.ErrName, "CREATE TABLE t (x INT)", "CREATE TABLE T (x INT)", "CREATE TABLE u (a INT, b INT, a TEXT)", "CREATE TABLE u (a INT, b INT, b INT)", "CREATE TABLE u (a INT, b INT, c INT, d INT, a INT)")
	refused(t, d, api.ErrSyntax, "CREATE TABLE u (a INT, b INT, c INT, d INT, e INT, f INT)", "CREATE TABLE t (a INT, a INT, a INT, a INT, a INT, a INT)", "CREATE TABLE elevenbytes (a INT)", "CREATE TABLE u (elevenbytes INT)", "CREATE TABLE t (a INT", "CREATE TABLE t ()", "CREATE TABLE u (from INT)")
	does(t, d, 0, "CREATE TABLE u (a INT)", "CREATE TABLE v (a INT)", "CREATE TABLE w (a INT)")
	refused(t, d, api.ErrFull, "CREATE TABLE x (a INT)")
	refused(t, d, api.ErrName, "CREATE TABLE w (a INT)", "CREATE TABLE x (a INT, a INT)")
	does(t, d, 1, "INSERT INTO w VALUES (1)")
}

func TestInsert(t *testing.T) {
	d := opened(t)
	does(t, d, 1, "INSERT INTO m VALUES (1 + 2 * 3, 'it''s', 1 < 2)", "insert into m values (NULL, NULL, NULL);", "INSERT INTO n VALUES (-NULL)", "INSERT INTO m VALUES (-(1), '', NULL AND FALSE)", "INSERT INTO n VALUES (1)", "INSERT INTO n VALUES (1)")
	saved(t, d,
		"CREATE TABLE n (a INT)", "INSERT INTO n VALUES (NULL)", "INSERT INTO n VALUES (1)", "INSERT INTO n VALUES (1)",
		"CREATE TABLE s (a TEXT)", "CREATE TABLE b (a BOOL)",
		"CREATE TABLE m (a INT, b TEXT, c BOOL)", "INSERT INTO m VALUES (7, 'it''s', TRUE)", "INSERT INTO m VALUES (NULL, NULL, NULL)", "INSERT INTO m VALUES (-1, '', FALSE)")
}

// TestInsertOrder: of several errors the one that comes first is told.
func TestInsertOrder(t *testing.T) {
	d := opened(t)
	for range 25 {
		does(t, d, 1, "INSERT INTO m VALUES (1, 'x', TRUE)")
	}
	for want, statements := range map[api.Errno][]string{
		api.ErrSyntax: {"INSERT INTO no VALUES (x", "INSERT INTO m VALUES (x, 1 / 0)) ", "INSERT INTO m VALUES (9223372036854775808, x)", "INSERT INTO no VALUES (1);;"},
		api.ErrName:   {"INSERT INTO no VALUES (1, 2)", "INSERT INTO M VALUES (1, 'x', TRUE)", "INSERT INTO m VALUES (x, 1, 1)", "INSERT INTO m VALUES (1 / 0, b, TRUE)", "INSERT INTO m VALUES (1, 'x', FALSE AND m.c)", "INSERT INTO m VALUES (a, 'x', TRUE)", "INSERT INTO m VALUES (m.a, 'x', TRUE)"},
		api.ErrType: {"INSERT INTO m VALUES (x)", "INSERT INTO m VALUES (1, 'x')", "INSERT INTO m VALUES (1, 'x', TRUE, TRUE)", "INSERT INTO m VALUES (1, 'x', TRUE, x)", "INSERT INTO m VALUES (1 / 0, 1, TRUE)", "INSERT INTO m VALUES ('x', x, TRUE)", "INSERT INTO m VALUES (1, TRUE, x)", "INSERT INTO m VALUES (1, 'x', 1)", "INSERT INTO m VALUES (1, -NULL, TRUE)", "INSERT INTO m VALUES (NULL = 1, 'x', TRUE)", "INSERT INTO m VALUES (TRUE + 1, x, TRUE)",
			"INSERT INTO n VALUES ('x')", "INSERT INTO n VALUES (TRUE)", "INSERT INTO n VALUES (1, 2)", "INSERT INTO s VALUES (1)", "INSERT INTO s VALUES (TRUE)", "INSERT INTO s VALUES ('a' + 'b')", "INSERT INTO b VALUES (1)", "INSERT INTO b VALUES ('x')"},
		api.ErrZero:  {"INSERT INTO m VALUES (1 / 0, 'x', TRUE)", "INSERT INTO m VALUES (1 % 0, 'x', 9223372036854775807 + 1 = 1)", "INSERT INTO m VALUES (1, 'x', 1 / 0 = 1)"},
		api.ErrRange: {"INSERT INTO m VALUES (9223372036854775807 + 1, 'x', 1 / 0 = 1)", "INSERT INTO m VALUES (1, 'x', -9223372036854775807 - 2 = 1)", "INSERT INTO n VALUES (-(-9223372036854775807 - 1))"},
		api.ErrFull:  {"INSERT INTO m VALUES (1, 'x', TRUE)", "INSERT INTO m VALUES (NULL, NULL, NULL)"},
	} {
		refused(t, d, want, statements...)
	}
	does(t, d, 1, "INSERT INTO n VALUES (1)")
}

func TestBounds(t *testing.T) {
	d := opened(t)
	text := strings.Repeat("'", 39)
	does(t, d, 1,
		"INSERT INTO n VALUES (9223372036854775807)", "INSERT INTO n VALUES (-9223372036854775807)", "INSERT INTO n VALUES (-9223372036854775807 - 1)", "INSERT INTO n VALUES (000)",
		"INSERT INTO n VALUES ("+strings.Repeat("(", 20)+"1"+strings.Repeat(")", 20)+")",
		"INSERT INTO s VALUES ('"+text+text+"x')", "INSERT INTO s VALUES (';\n\r\x00\xff')")
	saved(t, d,
		"CREATE TABLE n (a INT)", "INSERT INTO n VALUES (9223372036854775807)", "INSERT INTO n VALUES (-9223372036854775807)", "INSERT INTO n VALUES (-9223372036854775807 - 1)", "INSERT INTO n VALUES (0)", "INSERT INTO n VALUES (1)",
		"CREATE TABLE s (a TEXT)", "INSERT INTO s VALUES ('"+text+text+"x')", "INSERT INTO s VALUES (';\n\r\x00\xff')",
		"CREATE TABLE b (a BOOL)", "CREATE TABLE m (a INT, b TEXT, c BOOL)")
	refused(t, d, api.ErrSyntax, "INSERT INTO n VALUES (9223372036854775808)", "INSERT INTO n VALUES (-9223372036854775808)", "INSERT INTO s VALUES ('"+text+text+"xx')", "INSERT INTO n VALUES ("+strings.Repeat("(", 21)+"1"+strings.Repeat(")", 21)+")")
}

func TestLength(t *testing.T) {
	d := opened(t)
	long := "INSERT INTO n VALUES (1)"
	does(t, d, 1, long+strings.Repeat(" ", 600-len(long)), strings.Repeat("\n", 600-len(long))+long)
	refused(t, d, api.ErrSyntax, long+strings.Repeat(" ", 601-len(long)), strings.Repeat(long, 1000000), strings.Repeat("(", 1000000), strings.Repeat("'", 1000001))
	refused(t, d, api.ErrName, "INSERT INTO no VALUES (1)"+strings.Repeat(" ", 600-len(long)-1))
}

func TestRows(t *testing.T) {
	d := opened(t)
	lines := []string{"CREATE TABLE n (a INT)"}
	for i := range api.MaxRows {
		does(t, d, 1, fmt.Sprintf("INSERT INTO n VALUES (%d * %d)", i, -i))
		lines = append(lines, fmt.Sprintf("INSERT INTO n VALUES (%d)", -i*i))
	}
	lines = append(lines, "CREATE TABLE s (a TEXT)", "CREATE TABLE b (a BOOL)", "CREATE TABLE m (a INT, b TEXT, c BOOL)")
	saved(t, d, lines...)
	refused(t, d, api.ErrFull, "INSERT INTO n VALUES (1)")
	saved(t, d, lines...)
}

// TestSaveExample is the last of the document's examples.
func TestSaveExample(t *testing.T) {
	d := New()
	does(t, d, 0, "CREATE TABLE t (a INT, b TEXT)")
	does(t, d, 1, "INSERT INTO t VALUES (1, 'x')", "INSERT INTO t VALUES (NULL, 'it''s')")
	saved(t, d, "CREATE TABLE t (a INT, b TEXT)", "INSERT INTO t VALUES (1, 'x')", "INSERT INTO t VALUES (NULL, 'it''s')")
}

// TestSavedAgain: the lines of Save are statements that make the same database.
func TestSavedAgain(t *testing.T) {
	d := opened(t)
	quotes := "'" + strings.Repeat("''", 40) + "'"
	does(t, d, 0, "CREATE TABLE q (a123456789 TEXT, b123456789 TEXT, c TEXT, d TEXT, e TEXT)")
	does(t, d, 1, "INSERT INTO m VALUES (-9223372036854775807 - 1, 'it''s; -- (', NOT TRUE)", "INSERT INTO n VALUES (-5)", "INSERT INTO b VALUES (NULL)", "INSERT INTO q VALUES ("+strings.Repeat(quotes+", ", 4)+quotes+")")
	again := New()
	for line := range strings.Lines(d.Save()) {
		if r, errno := again.Exec(line); errno != api.OK {
			t.Errorf("Exec(%q): %v, %d", line, r, errno)
		}
	}
	if again.Save() != d.Save() {
		t.Errorf("Save: %q, want %q", again.Save(), d.Save())
	}
}

// TestApart: databases do not touch one another.
func TestApart(t *testing.T) {
	a, b := New(), New()
	does(t, a, 0, "CREATE TABLE t (a INT)")
	refused(t, b, api.ErrName, "INSERT INTO t VALUES (1)")
	does(t, b, 0, "CREATE TABLE t (b TEXT)")
	does(t, a, 1, "INSERT INTO t VALUES (1)")
	does(t, b, 1, "INSERT INTO t VALUES ('x')")
	saved(t, a, "CREATE TABLE t (a INT)", "INSERT INTO t VALUES (1)")
	saved(t, b, "CREATE TABLE t (b TEXT)", "INSERT INTO t VALUES ('x')")
}
