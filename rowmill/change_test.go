package rowmill

import (
	"fmt"
	"strings"
	"testing"

	"rowmill/api"
)

// five is a database with a table t of five rows, and one that no statement of these tests is about.
func five(t *testing.T) *DB {
	t.Helper()
	d := New()
	does(t, d, 0, "CREATE TABLE u (a INT)", "CREATE TABLE t (a INT, b TEXT, c BOOL)", "CREATE TABLE empty (a INT)")
	does(t, d, 1, "INSERT INTO u VALUES (7)")
	for _, row := range []string{"2, 'y', TRUE", "NULL, 'x', FALSE", "1, 'y', NULL", "2, NULL, FALSE", "-3, 'z', TRUE"} {
		does(t, d, 1, "INSERT INTO t VALUES ("+row+")")
	}
	return d
}

const allFive = "2,y,T -,x,F 1,y,- 2,-,F -3,z,T"

// told is rows as text.
func told(rows [][]api.Value) string {
	var lines []string
	for _, row := range rows {
		var line []string
		for _, v := range row {
			line = append(line, [...]string{"-", fmt.Sprint(v.N), v.S, "FT"[v.N&1 : v.N&1+1]}[v.Kind])
		}
		lines = append(lines, strings.Join(line, ","))
	}
	return strings.Join(lines, " ")
}

// asked: a SELECT tells these rows, each time, and changes nothing.
func asked(t *testing.T, d *DB, statement, want string) {
	t.Helper()
	before := d.Save()
	for range 2 {
		r, errno := d.Exec(statement)
		if errno != api.OK || r.Count != 0 || told(r.Rows) != want {
			t.Errorf("Exec(%q): %s, %d, %d, want %s", statement, told(r.Rows), r.Count, errno, want)
		}
	}
	if d.Save() != before {
		t.Errorf("Exec(%q) has changed something", statement)
	}
}

// leaves: a statement changes so many rows of t, these are its rows then, and the other tables are as they were.
func leaves(t *testing.T, d *DB, count int, statement, want string) {
	t.Helper()
	does(t, d, count, statement)
	asked(t, d, "SELECT * FROM t", want)
	asked(t, d, "SELECT * FROM u", "7")
	asked(t, d, "SELECT * FROM empty", "")
}

func TestDelete(t *testing.T) {
	for _, c := range []struct {
		where string
		count int
		left  string
	}{
		{"", 5, ""}, {";", 5, ""}, {" WHERE TRUE", 5, ""}, {" WHERE FALSE", 0, allFive}, {" WHERE NULL", 0, allFive},
		{" WHERE a = 2", 2, "-,x,F 1,y,- -3,z,T"}, {" WHERE NOT a = 2", 2, "2,y,T -,x,F 2,-,F"}, {" WHERE a IS NOT NULL", 4, "-,x,F"},
		{" where c", 2, "-,x,F 1,y,- 2,-,F"}, {" WHERE NOT t.c", 2, "2,y,T 1,y,- -3,z,T"}, {" WHERE c IS NULL OR c", 3, "-,x,F 2,-,F"},
		{" WHERE b >= 'y'", 3, "-,x,F 2,-,F"}, {" WHERE a < 0 AND 4 / (a - 1) = -1", 1, "2,y,T -,x,F 1,y,- 2,-,F"}, {" WHERE a = a + 1", 0, allFive},
	} {
		leaves(t, five(t), c.count, "DELETE FROM t"+c.where, c.left)
	}
	d := five(t)
	does(t, d, 0, "DELETE FROM empty", "DELETE FROM empty WHERE 1 / 0 = a")
	leaves(t, d, 1, "DELETE FROM t WHERE a = 1", "2,y,T -,x,F 2,-,F -3,z,T")
	leaves(t, d, 0, "DELETE FROM t WHERE a = 1", "2,y,T -,x,F 2,-,F -3,z,T")
	leaves(t, d, 1, "INSERT INTO t VALUES (1, 'n', NULL)", "2,y,T -,x,F 2,-,F -3,z,T 1,n,-")
	leaves(t, d, 5, "DELETE FROM t", "")
	leaves(t, d, 1, "INSERT INTO t VALUES (1, 'n', NULL)", "1,n,-")
}

// TestDeleteMakesRoom: a full table takes rows again.
func TestDeleteMakesRoom(t *testing.T) {
	d := opened(t)
	for i := range api.MaxRows {
		does(t, d, 1, fmt.Sprintf("INSERT INTO n VALUES (%d)", i))
	}
	refused(t, d, api.ErrFull, "INSERT INTO n VALUES (1)")
	does(t, d, 2, "DELETE FROM n WHERE a % 20 = 1")
	does(t, d, 1, "INSERT INTO n VALUES (1)", "INSERT INTO n VALUES (1)")
	refused(t, d, api.ErrFull, "INSERT INTO n VALUES (1)")
	does(t, d, 2, "DELETE FROM n WHERE a = 1")
}

// TestDeleteErrors: of several errors the one that comes first is told.
func TestDeleteErrors(t *testing.T) {
	d := five(t)
	for want, statements := range map[api.Errno][]string{
		api.ErrSyntax: {"DELETE t", "DELETE FROM no WHERE", "DELETE FROM t AS x", "DELETE FROM t WHERE no +", "DELETE FROM t WHERE a = 1, 2", "DELETE FROM t WHERE a; DELETE FROM t"},
		api.ErrName: {"DELETE FROM no", "DELETE FROM T", "DELETE FROM no WHERE 1 + TRUE", "DELETE FROM t WHERE no", "DELETE FROM t WHERE A = 1", "DELETE FROM t WHERE u.a = 1", "DELETE FROM t WHERE T.a = 1", "DELETE FROM t WHERE t.no = 1", "DELETE FROM t WHERE TRUE OR no",
			"DELETE FROM t WHERE no + TRUE = 1", "DELETE FROM t WHERE a + no", "DELETE FROM empty WHERE b = 1"},
		api.ErrType: {"DELETE FROM t WHERE a", "DELETE FROM t WHERE b", "DELETE FROM t WHERE 1", "DELETE FROM t WHERE -NULL", "DELETE FROM t WHERE a = b", "DELETE FROM t WHERE 1 + TRUE = no", "DELETE FROM t WHERE FALSE AND b", "DELETE FROM t WHERE 1 / 0", "DELETE FROM empty WHERE a"},
		api.ErrZero: {"DELETE FROM t WHERE 1 / 0 = 1", "DELETE FROM t WHERE 1 / (a + 3) = 1", "DELETE FROM t WHERE c OR 1 % (a - 1) = 0", "DELETE FROM t WHERE a = 2 AND 1 / 0 = 1 OR 9223372036854775807 + 1 = 1", "DELETE FROM t WHERE 1 / (a - 2) = -9223372036854775807 + a"},
		// The third row has another error than the last.
		api.ErrRange: {"DELETE FROM t WHERE a IS NOT NULL AND (a = 1 AND a + 9223372036854775807 > 0 OR a = -3 AND 1 / 0 = 1)", "DELETE FROM t WHERE -9223372036854775807 + a = 0"},
	} {
		refused(t, d, want, statements...)
	}
	asked(t, d, "SELECT * FROM t", allFive)
}

func TestUpdate(t *testing.T) {
	for _, c := range []struct {
		rest  string
		count int
		want  string
	}{
		{"a = 0", 5, "0,y,T 0,x,F 0,y,- 0,-,F 0,z,T"}, {"a = t.a - 1 where c;", 2, "1,y,T -,x,F 1,y,- 2,-,F -4,z,T"},
		// The values are those of the row as it was.
		{"a = a * 10, c = a > 1, b = 'n'", 5, "20,n,T -,n,- 10,n,F 20,n,T -30,n,F"}, {"c = a IS NULL, a = NULL WHERE a = 2 OR a IS NULL", 3, "-,y,F -,x,T 1,y,- -,-,F -3,z,T"}, {"a = 1, c = a = 2", 5, "1,y,T 1,x,- 1,y,F 1,-,T 1,z,F"},
		{"b = NULL", 5, "2,-,T -,-,F 1,-,- 2,-,F -3,-,T"}, {"b = b", 5, allFive}, {"b = b WHERE FALSE", 0, allFive}, {"b = 'n' WHERE NULL", 0, allFive}, {"b = '' WHERE b = 'y' AND NOT c", 0, allFive}, {"b = 'it''s' WHERE b IS NULL", 1, "2,y,T -,x,F 1,y,- 2,it's,F -3,z,T"},
		{"c = NOT c", 5, "2,y,F -,x,T 1,y,- 2,-,T -3,z,F"}, {"c = b = 'y' WHERE a > 0", 3, "2,y,T -,x,F 1,y,T 2,-,- -3,z,T"}, {"a = 1 / 0 WHERE a = 7", 0, allFive}, {"a = 6 / (a - 1) WHERE a <> 1", 3, "6,y,T -,x,F 1,y,- 6,-,F -1,z,T"},
	} {
		leaves(t, five(t), c.count, "UPDATE t SET "+c.rest, c.want)
	}
	d := five(t)
	does(t, d, 0, "UPDATE empty SET a = 1 / 0", "UPDATE empty SET a = 1 WHERE 1 / 0 = 1")
	leaves(t, d, 2, "UPDATE t SET a = 3 WHERE a = 2", "3,y,T -,x,F 1,y,- 3,-,F -3,z,T")
	leaves(t, d, 0, "UPDATE t SET a = 3 WHERE a = 2", "3,y,T -,x,F 1,y,- 3,-,F -3,z,T")
	leaves(t, d, 2, "UPDATE t SET a = a WHERE a = 3", "3,y,T -,x,F 1,y,- 3,-,F -3,z,T")
}

// TestUpdateErrors: of several errors the one that comes first is told.
func TestUpdateErrors(t *testing.T) {
	d := five(t)
	for want, statements := range map[api.Errno][]string{
		api.ErrSyntax: {"UPDATE t a = 1", "UPDATE t SET", "UPDATE t SET a", "UPDATE t SET t.a = 1", "UPDATE t SET a = 1,", "UPDATE t SET a = 1 b = 'x'", "UPDATE no SET no = 1 WHERE", "UPDATE t SET a = 9223372036854775808", "UPDATE t AS x SET a = 1"},
		api.ErrName: {"UPDATE no SET a = 1", "UPDATE T SET a = 1", "UPDATE no SET a = TRUE + 1", "UPDATE t SET no = 1", "UPDATE t SET A = 1", "UPDATE t SET no = TRUE + 1", "UPDATE t SET no = 1, a = TRUE", "UPDATE t SET a = 1, a = 2", "UPDATE t SET a = 1, b = 'x', a = TRUE", "UPDATE t SET a = 1, a = 1 WHERE 1",
			"UPDATE t SET a = no", "UPDATE t SET a = u.a", "UPDATE t SET c = no", "UPDATE t SET a = no, b = 1", "UPDATE t SET a = 1, b = 'x', c = no WHERE 1", "UPDATE t SET a = 1 WHERE no", "UPDATE t SET a = 1 / 0 WHERE no", "UPDATE t SET a = 1 WHERE u.a = 1", "UPDATE empty SET b = 1", "UPDATE t SET b = no + TRUE", "UPDATE t SET a = TRUE + no"},
		api.ErrType: {"UPDATE t SET a = 'x'", "UPDATE t SET a = c", "UPDATE t SET b = a", "UPDATE t SET b = TRUE", "UPDATE t SET c = 1", "UPDATE t SET c = b", "UPDATE t SET b = -NULL", "UPDATE t SET a = NULL = 1", "UPDATE t SET a = a = 1", "UPDATE t SET a = TRUE + 1 + no", "UPDATE t SET a = 'x', no = 1", "UPDATE t SET a = 'x', a = 1", "UPDATE t SET a = 'x' WHERE no",
			"UPDATE t SET a = 1, b = 2, no = 1", "UPDATE t SET a = 1 WHERE a", "UPDATE t SET a = 1 WHERE 'x'", "UPDATE t SET a = 1 / 0 WHERE 1", "UPDATE t SET a = 1 WHERE a = TRUE", "UPDATE empty SET a = 'x'"},
		api.ErrZero: {"UPDATE t SET a = 1 / 0", "UPDATE t SET b = 'q', a = 1 / (a + 3)", "UPDATE t SET a = 1 WHERE 1 / (a + 3) = 1", "UPDATE t SET a = 1 % 0, c = 9223372036854775807 + 1 = 1", "UPDATE t SET a = 9223372036854775807 + 1 WHERE 1 / 0 = 1",
			// A row's values are reckoned ahead of the next row's WHERE; what they would change is not seen there.
			"UPDATE t SET a = 1 / 0 WHERE a <> 1 OR 9223372036854775807 + a = 1", "UPDATE t SET a = a + 1, c = 1 / (a - 1) = 1"},
		api.ErrRange: {"UPDATE t SET b = 'q', a = 9223372036854775806 + a", "UPDATE t SET a = a - 9223372036854775807", "UPDATE t SET a = 9223372036854775807 + 1, c = 1 / 0 = 1", "UPDATE t SET a = 1 / 0 WHERE 9223372036854775806 + a > 0", "UPDATE t SET a = 9223372036854775806 + a WHERE 1 / (a - 1) = 1"},
	} {
		refused(t, d, want, statements...)
	}
	asked(t, d, "SELECT * FROM t", allFive)
}

// TestUpdateInsert: rows that were changed are told, saved and changed as others are.
func TestUpdateInsert(t *testing.T) {
	d := New()
	does(t, d, 0, "CREATE TABLE t (a INT, b TEXT)")
	does(t, d, 1, "INSERT INTO t VALUES (1, 'x')", "UPDATE t SET a = -9223372036854775807 - 1, b = ''''", "INSERT INTO t VALUES (2, 'y')")
	saved(t, d, "CREATE TABLE t (a INT, b TEXT)", "INSERT INTO t VALUES (-9223372036854775807 - 1, '''')", "INSERT INTO t VALUES (2, 'y')")
	does(t, d, 2, "UPDATE t SET b = NULL")
	refused(t, d, api.ErrRange, "UPDATE t SET a = a - 1", "UPDATE t SET a = -a")
	saved(t, d, "CREATE TABLE t (a INT, b TEXT)", "INSERT INTO t VALUES (-9223372036854775807 - 1, NULL)", "INSERT INTO t VALUES (2, NULL)")
	does(t, d, 1, "DELETE FROM t WHERE a < 0")
	saved(t, d, "CREATE TABLE t (a INT, b TEXT)", "INSERT INTO t VALUES (2, NULL)")
}
