package rowmill

import (
	"fmt"
	"strings"
	"testing"

	"rowmill/api"
)

// three is a database with a table t of three rows, one u of four, one e of none, and one s that has a column of its own.
func three(t *testing.T) *DB {
	t.Helper()
	d := New()
	does(t, d, 0, "CREATE TABLE t (a INT, b TEXT)", "CREATE TABLE u (a INT, d INT)", "CREATE TABLE e (f BOOL, a TEXT)", "CREATE TABLE s (g BOOL)")
	does(t, d, 1, "INSERT INTO t VALUES (2, 'x')", "INSERT INTO t VALUES (NULL, 'y')", "INSERT INTO t VALUES (1, 'z')")
	does(t, d, 1, "INSERT INTO u VALUES (1, 10)", "INSERT INTO u VALUES (2, 20)", "INSERT INTO u VALUES (NULL, 30)", "INSERT INTO u VALUES (2, 40)")
	does(t, d, 1, "INSERT INTO s VALUES (TRUE)", "INSERT INTO s VALUES (FALSE)", "INSERT INTO s VALUES (NULL)")
	return d
}

func TestJoin(t *testing.T) {
	d := three(t)
	for statement, want := range map[string]string{
		"SELECT * FROM t JOIN u ON t.a = u.a": "2,x,2,20 2,x,2,40 1,z,1,10", "select b, d from t join u on u.a = t.a;": "x,20 x,40 z,10", "SELECT d, b FROM u JOIN t ON t.a = u.a": "10,z 20,x 40,x",
		"SELECT b, d FROM t JOIN u ON TRUE":  "x,10 x,20 x,30 x,40 y,10 y,20 y,30 y,40 z,10 z,20 z,30 z,40",
		"SELECT b, d FROM t JOIN u ON FALSE": "", "SELECT b, d FROM t JOIN u ON NULL": "", "SELECT b, d FROM t JOIN u ON t.a <> u.a": "x,10 z,20 z,40", "SELECT b, d FROM t JOIN u ON t.a = u.a AND NULL": "", "SELECT b, d FROM t JOIN u ON t.a = u.a OR NULL": "x,20 x,40 z,10",
		"SELECT b, d FROM t JOIN u ON b = 'y'": "y,10 y,20 y,30 y,40", "SELECT b, d FROM t JOIN u ON d = 30": "x,30 y,30 z,30", "SELECT b, d FROM t JOIN u ON t.a IS NULL AND u.a IS NULL": "y,30", "SELECT b, g FROM t JOIN s ON g": "x,T y,T z,T", "SELECT b, g FROM t JOIN s ON NOT g AND a > 0": "x,F z,F",
		"SELECT 1 FROM t JOIN e ON TRUE": "", "SELECT 1 FROM e JOIN t ON TRUE": "", "SELECT 1 FROM e JOIN e AS x ON TRUE": "", "SELECT 1 FROM t JOIN e ON 1 / 0 = 1": "", "SELECT 1 FROM e JOIN t ON 1 / 0 = 1": "",
	} {
		asked(t, d, statement, want)
	}
}

func TestLeftJoin(t *testing.T) {
	d := three(t)
	for statement, want := range map[string]string{
		"SELECT * FROM t LEFT JOIN u ON t.a = u.a": "2,x,2,20 2,x,2,40 -,y,-,- 1,z,1,10", "select b, d from t left join u on d > 20;": "x,30 x,40 y,30 y,40 z,30 z,40", "SELECT d, b FROM u LEFT JOIN t ON t.a = u.a": "10,z 20,x 30,- 40,x",
		"SELECT * FROM t LEFT JOIN u ON FALSE": "2,x,-,- -,y,-,- 1,z,-,-", "SELECT * FROM t LEFT JOIN u ON NULL": "2,x,-,- -,y,-,- 1,z,-,-", "SELECT * FROM t LEFT JOIN u ON t.a + d = 22": "2,x,2,20 -,y,-,- 1,z,-,-", "SELECT * FROM t LEFT JOIN u ON b = 'z' AND d < 25": "2,x,-,- -,y,-,- 1,z,1,10 1,z,2,20",
		"SELECT * FROM t LEFT JOIN e ON TRUE": "2,x,-,- -,y,-,- 1,z,-,-", "SELECT * FROM t LEFT JOIN e ON 1 / 0 = 1": "2,x,-,- -,y,-,- 1,z,-,-", "SELECT * FROM e LEFT JOIN t ON TRUE": "", "SELECT * FROM e LEFT JOIN t ON 1 / 0 = 1": "", "SELECT * FROM e LEFT JOIN e AS x ON TRUE": "",
		"SELECT b, g FROM t LEFT JOIN s ON g IS NULL": "x,- y,- z,-", "SELECT b, g IS NULL, NOT g, d + 1 FROM t LEFT JOIN s ON a = 1 AND g LEFT JOIN u ON d = 99": "x,T,-,- y,T,-,- z,F,F,-",
	} {
		asked(t, d, statement, want)
	}
}

// TestJoinMore: three sources, and sources with names of their own.
func TestJoinMore(t *testing.T) {
	d := three(t)
	for statement, want := range map[string]string{
		"SELECT x.b, y.b FROM t AS x JOIN t AS y ON x.a > y.a":                                           "x,z",
		"SELECT x.b, y.b FROM t AS x LEFT JOIN t AS y ON x.a > y.a":                                      "x,z y,- z,-",
		"SELECT t.b, x.b FROM t JOIN t AS x ON t.b < x.b":                                                "x,y x,z y,z",
		"SELECT u.b, t.d FROM t AS u JOIN u AS t ON u.a = t.a":                                           "x,20 x,40 z,10",
		"SELECT a.a, b.a FROM t AS a JOIN u AS b ON a.a = b.a AND b = 'z'":                               "1,1",
		"SELECT T.b, t.b FROM t JOIN t AS T ON t.b = 'x' AND T.b <> t.b":                                 "y,x z,x",
		"SELECT b, x.d, y.d FROM t JOIN u AS x ON TRUE JOIN u AS y ON TRUE":                              strings.Join(triples([]string{"x", "y", "z"}, []string{"10", "20", "30", "40"}, []string{"10", "20", "30", "40"}), " "),
		"SELECT b, d, g FROM t JOIN u ON t.a = u.a JOIN s ON g = (d > 10)":                               "x,20,T x,40,T z,10,F",
		"SELECT b, d, g FROM t JOIN u ON t.a = u.a LEFT JOIN s ON g AND d > 20 OR g IS NULL AND b = 'z'": "x,20,- x,40,T z,10,-",
		"SELECT b, d, g FROM t LEFT JOIN u ON t.a = u.a LEFT JOIN s ON g = (d > 10)":                     "x,20,T x,40,T y,-,- z,10,F",
		"SELECT b, d, g FROM t LEFT JOIN u ON t.a = u.a JOIN s ON g = (d > 10)":                          "x,20,T x,40,T z,10,F",
		"SELECT b, d, g FROM t LEFT JOIN u ON t.a = u.a JOIN s ON d IS NULL":                             "y,-,T y,-,F y,-,-",
		"SELECT b, e.a, g FROM t LEFT JOIN e ON e.a = b JOIN s ON NOT g":                                 "x,-,F y,-,F z,-,F",
		"SELECT b, e.a, g FROM t JOIN e ON e.a = b LEFT JOIN s ON TRUE":                                  "",
		"SELECT b, g, f FROM t JOIN s ON g AND a > 0 LEFT JOIN e ON f = g":                               "x,T,- z,T,-",
		"SELECT * FROM s LEFT JOIN t ON g AND a = 2 LEFT JOIN u ON u.a = t.a AND d = 20":                 "T,2,x,2,20 F,-,-,-,- -,-,-,-,-",
	} {
		asked(t, d, statement, want)
	}
}

// triples: the last goes through all of its own first.
func triples(first, second, third []string) []string {
	var all []string
	for _, x := range first {
		for _, y := range second {
			for _, z := range third {
				all = append(all, x+","+y+","+z)
			}
		}
	}
	return all
}

// TestJoinThen: what comes behind the joins goes through the rows that they gave.
func TestJoinThen(t *testing.T) {
	d := three(t)
	for rest, want := range map[string]string{
		"b, d FROM t LEFT JOIN u ON t.a = u.a WHERE d IS NULL": "y,-", "b, d FROM t LEFT JOIN u ON t.a = u.a WHERE d > 10": "x,20 x,40", "b, d FROM t LEFT JOIN u ON t.a = u.a AND d > 10": "x,20 x,40 y,- z,-", "b FROM t LEFT JOIN u ON t.a = u.a WHERE u.a = 1 OR u.a IS NULL": "y z",
		"b, d FROM t LEFT JOIN u ON t.a = u.a ORDER BY d": "y,- z,10 x,20 x,40", "b, d FROM t LEFT JOIN u ON t.a = u.a ORDER BY t.a DESC": "x,20 x,40 z,10 y,-", "b, d FROM t LEFT JOIN u ON t.a = u.a ORDER BY u.a DESC, d DESC": "x,40 x,20 z,10 y,-", "d, b FROM t JOIN u ON TRUE WHERE d < 25 ORDER BY d": "10,x 10,y 10,z 20,x 20,y 20,z",
		"DISTINCT b FROM t JOIN u ON t.a = u.a": "x z", "DISTINCT u.a FROM t JOIN u ON TRUE": "1 2 -", "DISTINCT g, d > 20 FROM u JOIN s ON g": "T,F T,T", "DISTINCT b FROM t JOIN u ON TRUE ORDER BY d DESC, b DESC LIMIT 2": "z y",
		"b, d FROM t JOIN u ON TRUE LIMIT 2": "x,10 x,20", "b, d FROM t JOIN u ON TRUE LIMIT 3 OFFSET 3": "x,40 y,10 y,20", "b, d FROM t JOIN u ON TRUE LIMIT 9 OFFSET 11": "z,40", "b FROM t JOIN u ON TRUE LIMIT 9 OFFSET 12": "",
		"t.a + u.a, b, 'k' FROM t JOIN u ON d <> 20 AND t.a * u.a < 4": "3,x,k 2,z,k 3,z,k",
	} {
		asked(t, d, "SELECT "+rest, want)
	}
}

// TestJoinExamples are the document's.
func TestJoinExamples(t *testing.T) {
	d := New()
	does(t, d, 0, "CREATE TABLE t (a INT, b TEXT)")
	does(t, d, 1, "INSERT INTO t VALUES (1, 'x')", "INSERT INTO t VALUES (NULL, 'it''s')")
	asked(t, d, "SELECT x.a, y.a FROM t AS x LEFT JOIN t AS y ON x.a < y.a + 1", "1,1 -,-")
	refused(t, d, api.ErrName, "SELECT a FROM t AS x JOIN t AS y ON TRUE")
}

// TestJoinLooks: names and types are looked at in the document's order, and all of them ahead of what is done.
func TestJoinLooks(t *testing.T) {
	d := three(t)
	for want, statements := range map[api.Errno][]string{
		api.ErrSyntax: {"SELECT 1 FROM t JOIN u", "SELECT 1 FROM t LEFT u ON TRUE", "SELECT 1 FROM t JOIN ON TRUE", "SELECT 1 FROM t JOIN u ON", "SELECT 1 FROM t JOIN LEFT u ON TRUE", "SELECT 1 FROM t, u", "SELECT 1 FROM t JOIN u AS ON TRUE", "SELECT 1 FROM t ON TRUE", "SELECT 1 FROM t WHERE TRUE JOIN u ON TRUE", "SELECT 1 FROM t JOIN u WHERE TRUE", "SELECT 1 FROM no JOIN no ON no +",
			"SELECT 1 FROM t AS a JOIN t AS b ON TRUE JOIN t AS c ON TRUE JOIN t AS d ON TRUE", "SELECT no FROM no JOIN no ON 1 LEFT JOIN no ON 1 LEFT JOIN no ON 1", "DELETE FROM t JOIN u ON TRUE", "UPDATE t JOIN u ON TRUE SET a = 1"},
		api.ErrName: {
			// A source that is not there, or is called as one ahead.
			"SELECT 1 FROM t JOIN no ON TRUE", "SELECT 1 FROM no JOIN t ON TRUE", "SELECT 1 FROM t LEFT JOIN U ON TRUE", "SELECT 1 FROM t JOIN u ON TRUE JOIN no ON TRUE", "SELECT 1 FROM t JOIN t ON TRUE", "SELECT 1 FROM t AS u JOIN u ON TRUE", "SELECT 1 FROM t JOIN u AS t ON TRUE", "SELECT 1 FROM t AS x JOIN u AS x ON TRUE", "SELECT 1 FROM t JOIN u ON TRUE JOIN s AS t ON TRUE", "SELECT 1 FROM t JOIN u ON TRUE JOIN s AS u ON TRUE", "SELECT 1 FROM t AS x JOIN x ON TRUE",
			// That is told ahead of all ONs.
			"SELECT 1 FROM t JOIN u ON 1 JOIN no ON TRUE", "SELECT 1 FROM t JOIN u ON 1 JOIN t ON TRUE", "SELECT 1 FROM t JOIN t ON 1", "SELECT 1 + TRUE FROM t JOIN no ON 1",
			// ON has the sources up to its own.
			"SELECT 1 FROM t JOIN u ON f", "SELECT 1 FROM t JOIN u ON g JOIN s ON TRUE", "SELECT 1 FROM t JOIN u ON s.g JOIN s ON TRUE", "SELECT 1 FROM t JOIN u ON no = 1", "SELECT 1 FROM t JOIN u ON t.d = 1", "SELECT 1 FROM t AS x JOIN u ON t.a = 1", "SELECT 1 FROM t JOIN u AS x ON u.a = 1", "SELECT 1 FROM t JOIN u ON FALSE AND no",
			// A name alone that two sources have.
			"SELECT 1 FROM t JOIN u ON a = 1", "SELECT a FROM t JOIN u ON TRUE", "SELECT 1 FROM t JOIN u ON TRUE WHERE a = 1", "SELECT 1 FROM t JOIN u ON TRUE ORDER BY a", "SELECT 1 FROM t JOIN s ON TRUE JOIN u ON a = 1", "SELECT a FROM t JOIN s ON a = 1 JOIN u ON TRUE", "SELECT a FROM s JOIN t ON a = 1 LEFT JOIN e ON TRUE", "SELECT a FROM t JOIN u ON TRUE JOIN e ON TRUE",
			// The ONs in turn, then the values, WHERE's, ORDER BY's.
			"SELECT 1 FROM t JOIN u ON no JOIN s ON 1", "SELECT 1 + TRUE FROM t JOIN u ON no", "SELECT 1 FROM t JOIN u ON TRUE JOIN s ON no WHERE 1", "SELECT no FROM t JOIN u ON TRUE WHERE 1", "SELECT 1 FROM t JOIN u ON TRUE WHERE no ORDER BY -b", "SELECT 1 FROM t JOIN u ON TRUE ORDER BY no, -b", "SELECT 1 FROM t JOIN u ON 1 / 0 = 1 ORDER BY no",
		},
		api.ErrType: {"SELECT 1 FROM t JOIN u ON 1", "SELECT 1 FROM t JOIN u ON d", "SELECT 1 FROM t JOIN u ON b", "SELECT 1 FROM t JOIN u ON -NULL", "SELECT 1 FROM t JOIN e ON t.a = e.a", "SELECT 1 FROM t LEFT JOIN u ON d AND TRUE", "SELECT 1 FROM e JOIN e AS x ON 'x'",
			"SELECT 1 FROM t JOIN u ON 1 JOIN s ON no", "SELECT 1 FROM t JOIN u ON TRUE JOIN s ON 1", "SELECT no FROM t JOIN u ON 1", "SELECT 1 FROM t JOIN u ON 1 WHERE no", "SELECT b + d FROM t JOIN u ON TRUE WHERE no", "SELECT 1 FROM t JOIN u ON TRUE WHERE d ORDER BY no", "SELECT 1 FROM t JOIN u ON TRUE ORDER BY -b, no", "SELECT 1 FROM t JOIN u ON 1 / 0", "SELECT 1 FROM t JOIN u ON 1 / 0 = 1 WHERE d"},
	} {
		refused(t, d, want, statements...)
	}
	asked(t, d, "SELECT b FROM t JOIN s ON a = 1 AND g JOIN u ON t.a = u.a", "z")
}

// TestJoinReckons: of several errors the one that is met first is told; what is not reckoned has none.
func TestJoinReckons(t *testing.T) {
	d := three(t)
	for want, statements := range map[api.Errno][]string{
		api.ErrZero: {"SELECT 1 FROM t JOIN u ON 1 / 0 = 1", "SELECT 1 FROM t LEFT JOIN u ON 1 / (d - 40) = 1", "SELECT 1 FROM t JOIN u ON 1 / (t.a - 1) = 1 LIMIT 0", "SELECT 1 FROM t JOIN u ON FALSE OR 1 % (t.a - u.a) = 0",
			// For each row so far all rows of the source are gone through: the first with the last ahead of the last with the first.
			"SELECT 1 FROM t JOIN u ON b = 'x' AND d = 40 AND 1 / 0 = 1 OR b = 'z' AND d = 10 AND 9223372036854775807 + d > 0", "SELECT 1 FROM t JOIN u ON b = 'y' AND d = 10 AND 1 / 0 = 1 OR b = 'y' AND d = 20 AND 9223372036854775807 + d > 0",
			// A JOIN is done with all rows ahead of the next, of WHERE, of ORDER BY and of the values.
			"SELECT 1 FROM t JOIN u ON b < 'z' OR d < 40 OR 1 / 0 = 1 JOIN s ON 9223372036854775807 + d > 0", "SELECT 9223372036854775807 + d FROM t JOIN u ON b < 'z' OR 1 / (d - 40) = 0 WHERE 9223372036854775807 + d > 0 ORDER BY 9223372036854775807 + d", "SELECT 9223372036854775807 + d FROM t JOIN u ON TRUE JOIN s ON d < 40 OR 1 / 0 = 1",
			"SELECT 9223372036854775807 + d FROM t JOIN u ON TRUE WHERE 1 / (d - 40) = 0", "SELECT 9223372036854775807 + d FROM t JOIN u ON TRUE ORDER BY 1 / (d - 40)", "SELECT 1 / (d - 40) FROM t JOIN u ON TRUE LIMIT 1"},
		api.ErrRange: {"SELECT 1 FROM t JOIN u ON 9223372036854775807 + d > 0", "SELECT 1 FROM t JOIN u ON b = 'x' AND d = 40 AND 9223372036854775807 + d > 0 OR b = 'z' AND d = 10 AND 1 / 0 = 1", "SELECT 1 FROM t JOIN u ON b < 'z' OR d < 40 OR 9223372036854775807 + d > 0 JOIN s ON 1 / 0 = 1", "SELECT 1 / 0 FROM t JOIN u ON 9223372036854775807 + d > 0 WHERE 1 / 0 = 1 ORDER BY 1 / 0"},
	} {
		refused(t, d, want, statements...)
	}
	asked(t, d, "SELECT b FROM t JOIN u ON d = 10 AND t.a = u.a JOIN s ON g AND 1 / (d - 20) = 0", "z")
	asked(t, d, "SELECT 1 FROM t JOIN u ON FALSE JOIN s ON 1 / 0 = 1 WHERE 1 / 0 = 1", "")
	asked(t, d, "SELECT b, d, f FROM t JOIN u ON t.a = 1 AND d = 10 LEFT JOIN e ON 1 / 0 = 1", "z,10,-")
}

// TestJoinFull: as many rows and columns as there can be.
func TestJoinFull(t *testing.T) {
	d := New()
	does(t, d, 0, "CREATE TABLE t (a INT, b INT, c INT, d INT, e TEXT)")
	var all []string
	for i := range api.MaxRows {
		does(t, d, 1, fmt.Sprintf("INSERT INTO t VALUES (%d, 1, 2, 3, '%[1]d')", i))
		all = append(all, fmt.Sprint(i))
	}
	want := triples(all, all, all)
	asked(t, d, "SELECT x.a, y.a, z.e FROM t AS x JOIN t AS y ON TRUE LEFT JOIN t AS z ON TRUE", strings.Join(want, " "))
	asked(t, d, "SELECT DISTINCT x.a, y.e, z.a FROM t AS x JOIN t AS y ON TRUE LEFT JOIN t AS z ON TRUE ORDER BY x.a, y.a, z.a LIMIT 99999 OFFSET 15600", strings.Join(want[15600:], " "))
	r, errno := d.Exec("SELECT * FROM t AS x JOIN t AS y ON TRUE JOIN t AS z ON TRUE ORDER BY z.a DESC, y.a DESC, x.a DESC")
	if errno != api.OK || len(r.Rows) != 15625 || told(r.Rows[1:2]) != "23,1,2,3,23,24,1,2,3,24,24,1,2,3,24" {
		t.Errorf("%d rows, %d: %s", len(r.Rows), errno, told(r.Rows[1:2]))
	}
}

// TestJoinLate: a join goes through the rows as they are when it is asked.
func TestJoinLate(t *testing.T) {
	d := three(t)
	const statement = "SELECT b, d FROM t LEFT JOIN u ON t.a = u.a"
	asked(t, d, statement, "x,20 x,40 y,- z,10")
	does(t, d, 1, "DELETE FROM u WHERE d = 20", "UPDATE t SET a = 7 WHERE b = 'z'", "INSERT INTO u VALUES (7, 50)")
	asked(t, d, statement, "x,40 y,- z,50")
	does(t, d, 4, "DELETE FROM u")
	asked(t, d, statement, "x,- y,- z,-")
	does(t, d, 3, "DELETE FROM t")
	asked(t, d, statement, "")
}

// TestJoinOwn: an answer may be written into, and no two of its rows share memory, nor do they with the tables.
func TestJoinOwn(t *testing.T) {
	for _, statement := range []string{"SELECT * FROM t LEFT JOIN u ON t.a = u.a", "SELECT DISTINCT t.a, b, d FROM t LEFT JOIN u ON d < 15", "SELECT * FROM t JOIN u ON TRUE JOIN s ON TRUE", "SELECT * FROM t LEFT JOIN e ON TRUE LEFT JOIN s ON FALSE"} {
		d := three(t)
		before := d.Save()
		first, _ := d.Exec(statement)
		second, _ := d.Exec(statement)
		want := told(second.Rows)
		for i, row := range second.Rows {
			copied := append([]api.Value{}, row...)
			row = row[:cap(row)]
			for k := range row {
				row[k] = api.Value{Kind: api.Text, S: "spoilt"}
			}
			if others := strings.Count(told(second.Rows), "spoilt"); others != len(copied) {
				t.Errorf("%q: row %d has changed others: %s", statement, i, told(second.Rows))
			}
			copy(row, copied)
		}
		spoil(first)
		if d.Save() != before || told(second.Rows) != want {
			t.Errorf("%q: %s, want %s, and Save: %s", statement, told(second.Rows), want, d.Save())
		}
		if third, _ := d.Exec(statement); told(third.Rows) != want {
			t.Errorf("%q again: %s, want %s", statement, told(third.Rows), want)
		}
	}
}
