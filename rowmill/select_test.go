package rowmill

import (
	"fmt"
	"math"
	"strings"
	"testing"

	"rowmill/api"
)

func TestSelectValues(t *testing.T) {
	d := five(t)
	for statement, want := range map[string]string{
		"SELECT * FROM t": allFive, "select * from t;": allFive, "SELECT * FROM t AS x": allFive, "SELECT a FROM t": "2 - 1 2 -3", "SELECT c, t.a, b FROM t": "T,2,y F,-,x -,1,y F,2,- T,-3,z", "SELECT a, a FROM t WHERE a = 1": "1,1",
		"SELECT x.a FROM t AS x": "2 - 1 2 -3", "SELECT u.a FROM t AS u": "2 - 1 2 -3", "SELECT a.a FROM t AS a": "2 - 1 2 -3",
		"SELECT 1 FROM t": "1 1 1 1 1", "SELECT NULL, 'k', FALSE FROM u": "-,k,F", "SELECT a * a - 1, b = 'y', NOT c FROM t": "3,T,F -,F,T 0,T,- 3,-,T 8,F,F", "SELECT a IS NULL FROM t": "F T F F F",
		"SELECT * FROM empty": "", "SELECT 1 / 0 FROM empty": "", "SELECT a FROM empty WHERE 1 / 0 = 1 ORDER BY 1 / 0": "",
	} {
		asked(t, d, statement, want)
	}
}

func TestSelectWhere(t *testing.T) {
	d := five(t)
	for where, want := range map[string]string{
		"TRUE": "2 - 1 2 -3", "FALSE": "", "NULL": "", "c": "2 -3", "NOT c": "- 2", "a = a": "2 1 2 -3", "a <> 2": "1 -3", "b = 'y'": "2 1", "t.b > 'x' AND a > 0": "2 1", "c IS NULL OR a IS NULL": "- 1", "NULL OR a = 2": "2 2", "NULL AND a = 2": "",
		"a < 0 AND 1 / (a - 1) = 0": "-3", "(a = 2) = c": "2", "b IS NULL": "2",
	} {
		asked(t, d, "SELECT a FROM t WHERE "+where, want)
	}
}

func TestSelectOrder(t *testing.T) {
	d := five(t)
	for order, want := range map[string]string{
		"a": "-,x -3,z 1,y 2,y 2,-", "a DESC": "2,y 2,- 1,y -3,z -,x", "b": "2,- -,x 2,y 1,y -3,z", "b DESC": "-3,z 2,y 1,y -,x 2,-", "c": "1,y -,x 2,- 2,y -3,z", "c DESC": "2,y -3,z -,x 2,- 1,y",
		"a, b": "-,x -3,z 1,y 2,- 2,y", "a, b DESC": "-,x -3,z 1,y 2,y 2,-", "b DESC, a": "-3,z 1,y 2,y -,x 2,-", "b DESC, a DESC": "-3,z 2,y 1,y -,x 2,-", "c DESC, a, b": "-3,z 2,y -,x 2,- 1,y", "c, a DESC": "1,y 2,- -,x 2,y -3,z",
		"NULL": "2,y -,x 1,y 2,- -3,z", "1 DESC": "2,y -,x 1,y 2,- -3,z", "'k', NULL DESC, a": "-,x -3,z 1,y 2,y 2,-", "-a": "-,x 2,y 2,- 1,y -3,z", "a * a DESC": "-3,z 2,y 2,- 1,y -,x", "a = 2 DESC, b": "2,- 2,y 1,y -3,z -,x", "a IS NULL, t.a % 2": "-3,z 2,y 2,- 1,y -,x",
	} {
		asked(t, d, "SELECT a, b FROM t ORDER BY "+order, want)
	}
	asked(t, d, "SELECT a FROM t AS x WHERE c ORDER BY x.a", "-3 2")
	asked(t, d, "SELECT c FROM t ORDER BY b, a", "F F - T T")
}

// TestOrderOfValues: numbers by their worth, texts byte by byte, FALSE ahead of TRUE, and NULL first.
func TestOrderOfValues(t *testing.T) {
	d := opened(t)
	does(t, d, 1, "INSERT INTO n VALUES (10)", "INSERT INTO n VALUES (9)", "INSERT INTO n VALUES (-9223372036854775807 - 1)", "INSERT INTO n VALUES (NULL)", "INSERT INTO n VALUES (9223372036854775807)", "INSERT INTO n VALUES (0)",
		"INSERT INTO s VALUES ('b')", "INSERT INTO s VALUES ('')", "INSERT INTO s VALUES ('\xc3\xa4')", "INSERT INTO s VALUES ('B')", "INSERT INTO s VALUES (NULL)", "INSERT INTO s VALUES ('ab')", "INSERT INTO s VALUES ('a')", "INSERT INTO s VALUES ('\xff')", "INSERT INTO s VALUES ('10')", "INSERT INTO s VALUES ('9')",
		"INSERT INTO b VALUES (TRUE)", "INSERT INTO b VALUES (NULL)", "INSERT INTO b VALUES (FALSE)")
	asked(t, d, "SELECT a FROM n ORDER BY a", "- -9223372036854775808 0 9 10 9223372036854775807")
	asked(t, d, "SELECT a FROM n ORDER BY a DESC", "9223372036854775807 10 9 0 -9223372036854775808 -")
	asked(t, d, "SELECT a FROM s ORDER BY a", "-  10 9 B a ab b \xc3\xa4 \xff")
	asked(t, d, "SELECT a FROM b ORDER BY a", "- F T")
	asked(t, d, "SELECT a FROM b ORDER BY a DESC", "T F -")
}

func TestSelectDistinct(t *testing.T) {
	d := five(t)
	for statement, want := range map[string]string{
		"a FROM t": "2 - 1 -3", "b FROM t": "y x - z", "c FROM t": "T F -", "* FROM t": allFive, "1 FROM t": "1", "NULL FROM t": "-", "c, a IS NULL FROM t": "T,F F,T -,F F,F", "a, b FROM t": "2,y -,x 1,y 2,- -3,z", "a FROM empty": "",
		"a FROM t ORDER BY b DESC": "-3 2 1 -", "a FROM t ORDER BY a DESC": "2 1 -3 -", "b FROM t WHERE c IS NULL OR c": "y z", "a * a FROM t": "4 - 1 9", "a = 2 FROM t ORDER BY a": "- F T",
		"a FROM t LIMIT 2": "2 -", "a FROM t LIMIT 9 OFFSET 3": "-3", "c FROM t ORDER BY a DESC LIMIT 2 OFFSET 1": "F -",
	} {
		asked(t, d, "SELECT DISTINCT "+statement, want)
	}
}

// TestDistinctApart: rows that look alike, if they are written without care, are not the same.
func TestDistinctApart(t *testing.T) {
	d := New()
	does(t, d, 0, "CREATE TABLE t (a TEXT, b TEXT)", "CREATE TABLE n (a INT)")
	for _, row := range []string{"'', 'x'", "'x', ''", "NULL, 'x'", "'NULL', 'x'", "'x', NULL", "'x, ', 'x'", "'x', ', x'", "''', ''', ''", "'', ''', '''", "'TRUE', '1'", "'x'',', 'x'", "'x', ',''x'"} {
		does(t, d, 1, "INSERT INTO t VALUES ("+row+")", "INSERT INTO t VALUES ("+row+")")
	}
	if r, _ := d.Exec("SELECT DISTINCT * FROM t"); len(r.Rows) != 12 {
		t.Errorf("%d rows: %v", len(r.Rows), r.Rows)
	}
	if r, _ := d.Exec("SELECT DISTINCT b, a, a, b FROM t"); len(r.Rows) != 12 {
		t.Errorf("%d rows: %v", len(r.Rows), r.Rows)
	}
	does(t, d, 1, "INSERT INTO n VALUES (-9223372036854775807)", "INSERT INTO n VALUES (-9223372036854775807 - 1)", "INSERT INTO n VALUES (1)", "INSERT INTO n VALUES (0)", "INSERT INTO n VALUES (NULL)", "INSERT INTO n VALUES (-1)", "INSERT INTO n VALUES (-9223372036854775807 - 1)", "INSERT INTO n VALUES (-0)")
	asked(t, d, "SELECT DISTINCT a FROM n", "-9223372036854775807 -9223372036854775808 1 0 - -1")
}

// TestRowKey: rows that are not the same have keys that are not, whatever digits and texts they have.
func TestRowKey(t *testing.T) {
	values := []api.Value{{}, truthValue(false), truthValue(true), {Kind: api.Text, S: ""}}
	for _, n := range []int{0, 1, 2, 10, 11, 20, 101, 110, 1011, 2012, 20120, 30, 130, -1, -2, -10, math.MaxInt, math.MinInt} {
		values = append(values, number(n), api.Value{Kind: api.Text, S: fmt.Sprint(n)}, api.Value{Kind: api.Text, S: fmt.Sprint(n, " ")}, api.Value{Kind: api.Text, S: "2 0 1 " + fmt.Sprint(n)})
	}
	met := map[string][]api.Value{}
	for _, x := range values {
		for _, y := range values {
			row := []api.Value{x, y}
			if other := met[rowKey(row)]; other != nil {
				t.Errorf("%v and %v have one key: %q", row, other, rowKey(row))
			}
			met[rowKey(row)] = row
		}
	}
}

func TestSelectLimit(t *testing.T) {
	d := five(t)
	for limit, want := range map[string]string{
		"LIMIT 0": "", "LIMIT 1": "2", "LIMIT 4": "2 - 1 2", "LIMIT 5": "2 - 1 2 -3", "LIMIT 6": "2 - 1 2 -3", "LIMIT 9223372036854775807": "2 - 1 2 -3", "LIMIT 2 OFFSET 0": "2 -", "LIMIT 2 OFFSET 1": "- 1", "LIMIT 2 OFFSET 4": "-3", "LIMIT 2 OFFSET 5": "", "LIMIT 2 OFFSET 6": "", "LIMIT 0 OFFSET 2": "",
		"LIMIT 9223372036854775807 OFFSET 3": "2 -3", "LIMIT 1 OFFSET 9223372036854775807": "", "LIMIT 9223372036854775807 OFFSET 9223372036854775807": "",
		"ORDER BY a LIMIT 2": "- -3", "ORDER BY a LIMIT 2 OFFSET 2": "1 2", "WHERE a > 0 LIMIT 2 OFFSET 1": "1 2", "WHERE a > 0 ORDER BY a DESC, b LIMIT 1 OFFSET 2": "1",
	} {
		asked(t, d, "SELECT a FROM t "+limit, want)
	}
}

// TestSelectExamples are the document's, of one source.
func TestSelectExamples(t *testing.T) {
	d := New()
	does(t, d, 0, "CREATE TABLE t (a INT, b TEXT)")
	does(t, d, 1, "INSERT INTO t VALUES (1, 'x')", "INSERT INTO t VALUES (NULL, 'it''s')")
	asked(t, d, "SELECT * FROM t", "1,x -,it's")
	asked(t, d, "SELECT a + 1 FROM t WHERE a = a", "2")
	asked(t, d, "SELECT b FROM t ORDER BY a DESC", "x it's")
	asked(t, d, "SELECT a IS NULL FROM t", "F T")
	asked(t, d, "SELECT FALSE AND 1 / 0 = 1 FROM t", "F F")
	refused(t, d, api.ErrType, "SELECT a + b FROM t")
	refused(t, d, api.ErrZero, "SELECT 1 / (a - 1) FROM t", "SELECT NULL AND 1 / 0 = 1 FROM t")
}

// TestSelectErrors: of several errors the one that comes first is told.
func TestSelectErrors(t *testing.T) {
	d := five(t)
	for want, statements := range map[api.Errno][]string{
		api.ErrSyntax: {"SELECT FROM t", "SELECT a", "SELECT no FROM no WHERE", "SELECT *, a FROM t", "SELECT a FROM t ORDER BY a ASC", "SELECT a FROM t LIMIT -1", "SELECT a FROM t OFFSET 1", "SELECT a FROM t x", "SELECT 9223372036854775808 FROM no", "SELECT DISTINCT FROM t"},
		api.ErrName: {"SELECT * FROM no", "SELECT * FROM T", "SELECT 1 + TRUE FROM no", "SELECT * FROM x AS t", "SELECT no FROM t", "SELECT A FROM t", "SELECT t.a FROM t AS x", "SELECT x.a FROM t", "SELECT u.a FROM t", "SELECT t.no FROM t", "SELECT t FROM t", "SELECT b FROM empty", "SELECT a, no FROM t", "SELECT no, 1 + TRUE FROM t", "SELECT FALSE AND no FROM t",
			"SELECT a FROM t WHERE no", "SELECT * FROM t WHERE no = 1", "SELECT a FROM t WHERE no + TRUE = 1", "SELECT no FROM t WHERE 1", "SELECT a FROM t WHERE t.no ORDER BY -b", "SELECT a FROM t ORDER BY no", "SELECT a FROM t ORDER BY a, no DESC", "SELECT a FROM t ORDER BY no, -b", "SELECT 1 / 0 FROM t ORDER BY no", "SELECT a FROM t AS x ORDER BY t.a", "SELECT a FROM t WHERE 1 / 0 = 1 ORDER BY no LIMIT 0"},
		api.ErrType: {"SELECT a + b FROM t", "SELECT -c FROM t", "SELECT a, NOT a FROM t", "SELECT b < a, no FROM t", "SELECT a = TRUE FROM empty", "SELECT 1 + TRUE FROM t WHERE no", "SELECT 1 + TRUE FROM t ORDER BY no",
			"SELECT a FROM t WHERE a", "SELECT a FROM t WHERE 'x'", "SELECT a FROM t WHERE -NULL", "SELECT a FROM empty WHERE a", "SELECT 1 / 0 FROM t WHERE b AND c", "SELECT a FROM t WHERE 1 ORDER BY no", "SELECT a FROM t WHERE a + b = no", "SELECT a FROM t ORDER BY -b", "SELECT a FROM t ORDER BY b + 1, no", "SELECT 1 / 0 FROM t ORDER BY NOT a"},
		api.ErrZero: {"SELECT 1 / 0 FROM t", "SELECT 1 / (a + 3) FROM t", "SELECT 1 / (a + 3) FROM t LIMIT 1", "SELECT 1 / (a + 3) FROM t LIMIT 0", "SELECT DISTINCT 1 % (a - 1) FROM t LIMIT 1 OFFSET 9", "SELECT 1 / 0, 9223372036854775807 + 1 FROM t", "SELECT a FROM t WHERE 1 / (a + 3) = 1", "SELECT a FROM t WHERE 1 / (a + 3) = 1 LIMIT 0", "SELECT a FROM t ORDER BY 1 / (a + 3)", "SELECT a FROM t ORDER BY a, 1 / 0", "SELECT a FROM t WHERE c ORDER BY 1 / (a + 3) LIMIT 0", "SELECT 1 / 0 FROM t WHERE a = 1", "SELECT a FROM t WHERE a = 1 ORDER BY 1 / 0",
			// WHERE is done with all rows ahead of ORDER BY, and ORDER BY ahead of the values.
			"SELECT a + 9223372036854775807 FROM t WHERE 1 / (a + 3) = 0", "SELECT a FROM t WHERE 1 / (a + 3) = 0 ORDER BY a + 9223372036854775807", "SELECT a + 9223372036854775807 FROM t ORDER BY 1 / (a + 3)",
			// A row's second is reckoned ahead of the next row's first; the values are, in the order that ORDER BY gives.
			"SELECT a FROM t ORDER BY (a = 1) AND a + 9223372036854775807 > 0, 1 / (a - 2)", "SELECT a = 1 AND a + 9223372036854775807 > 0, 1 / (a - 2) FROM t", "SELECT a = -3 AND 1 / 0 = 1 OR a = 2 AND 9223372036854775807 + 1 = 1 FROM t ORDER BY a"},
		api.ErrRange: {"SELECT a + 9223372036854775806 FROM t", "SELECT 9223372036854775807 + 1, 1 / 0 FROM t", "SELECT 1 / (a - 1) FROM t WHERE a + 9223372036854775806 > 0", "SELECT a FROM t WHERE a - 9223372036854775807 < 0 ORDER BY 1 / 0", "SELECT 1 / 0 FROM t ORDER BY a - 9223372036854775807", "SELECT a = -3 AND 1 / 0 = 1 OR a = 2 AND 9223372036854775807 + 1 = 1 FROM t", "SELECT a = -3 AND 1 / 0 = 1 OR a = 2 AND 9223372036854775807 + 1 = 1 FROM t ORDER BY a DESC"},
	} {
		refused(t, d, want, statements...)
	}
	asked(t, d, "SELECT 1 / 0 FROM t WHERE a = 7 ORDER BY 1 / 0", "")
	asked(t, d, "SELECT a FROM t WHERE a = 1 ORDER BY 1 / (a + 3)", "1")
	asked(t, d, "SELECT 1 / (a + 3) FROM t WHERE a > -3", "0 0 0")
}

// TestManyValues: as many values, and as many orders, as a text has room for.
func TestManyValues(t *testing.T) {
	d := five(t)
	n := 200
	r, errno := d.Exec("SELECT a" + strings.Repeat(",a", n-1) + " FROM t ORDER BY b" + strings.Repeat(",b", 60) + ",a")
	if errno != api.OK || len(r.Rows) != 5 {
		t.Fatalf("%d rows, %d", len(r.Rows), errno)
	}
	for i, want := range []string{"2", "-", "1", "2", "-3"} {
		if got := told(r.Rows[i : i+1]); got != strings.Repeat(want+",", n-1)+want {
			t.Errorf("row %d: %s", i, got)
		}
	}
}

// spoil writes into all of an answer, and into the room behind it.
func spoil(r api.Result) {
	rows := r.Rows[:cap(r.Rows)]
	for _, row := range rows {
		row = row[:cap(row)]
		for i := range row {
			row[i] = api.Value{Kind: api.Text, N: -1, S: "spoilt"}
		}
	}
	for i := range rows {
		rows[i] = []api.Value{{Kind: -7}}
	}
}

// TestAnswersAreOwn: what came out may be written into, and what is done later does not change it.
func TestAnswersAreOwn(t *testing.T) {
	for _, statement := range []string{"SELECT * FROM t", "SELECT DISTINCT * FROM t", "SELECT a, b, c FROM t", "SELECT * FROM t ORDER BY NULL", "SELECT * FROM t WHERE TRUE LIMIT 9", "SELECT * FROM t LIMIT 9 OFFSET 0"} {
		d := five(t)
		before := d.Save()
		first, _ := d.Exec(statement)
		second, _ := d.Exec(statement)
		spoil(first)
		if told(second.Rows) != allFive || d.Save() != before {
			t.Errorf("%q: %s, and Save: %s", statement, told(second.Rows), d.Save())
		}
		asked(t, d, statement, allFive)
		does(t, d, 5, "UPDATE t SET a = 0, b = 'n', c = NULL")
		does(t, d, 1, "INSERT INTO t VALUES (1, 'm', TRUE)")
		does(t, d, 6, "DELETE FROM t")
		if told(second.Rows) != allFive {
			t.Errorf("%q, later: %s", statement, told(second.Rows))
		}
	}
}

// TestRowsAreApart: no two lists of an answer share memory, nor the room behind them.
func TestRowsAreApart(t *testing.T) {
	d := five(t)
	for _, statement := range []string{"SELECT * FROM t", "SELECT DISTINCT a, b, c FROM t", "SELECT 1, 1, 1 FROM t", "SELECT a FROM t LIMIT 3 OFFSET 1"} {
		r, _ := d.Exec(statement)
		for i, row := range r.Rows {
			before := told(r.Rows[:i]) + told(r.Rows[i+1:])
			row = row[:cap(row)]
			for k := range row {
				row[k] = api.Value{Kind: api.Text, S: fmt.Sprint("row", i)}
			}
			if after := told(r.Rows[:i]) + told(r.Rows[i+1:]); after != before {
				t.Errorf("%q: row %d has changed others: %s, before %s", statement, i, after, before)
			}
		}
	}
}

// TestValuesAreClean: what does not belong to a value that is told is 0 or empty.
func TestValuesAreClean(t *testing.T) {
	d := five(t)
	r, _ := d.Exec("SELECT a, b, c, a > 0 AND b IS NULL, -a, NULL, NOT c FROM t")
	for _, row := range r.Rows {
		for _, v := range row {
			clean := v.Kind == api.Null && v == api.Value{} || v.Kind == api.Int && v.S == "" || v.Kind == api.Text && v.N == 0 || v.Kind == api.Bool && v.S == "" && (v.N == 0 || v.N == 1)
			if !clean {
				t.Errorf("a value of %v: %v", row, v)
			}
		}
	}
}
