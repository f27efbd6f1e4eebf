package rowmill

import (
	"strings"
	"testing"

	"rowmill/api"
)

// starts: statements of each form, to be spoilt byte by byte.
var starts = []string{
	"CREATE TABLE t (a INT, b TEXT, c BOOL);",
	"INSERT INTO m VALUES (-(1 + 2) * 3, 'it''s', NOT NULL OR 1 <> 2)",
	"INSERT INTO n VALUES (9223372036854775807 % -7 / 1)",
	"DELETE FROM m WHERE a IS NOT NULL",
	"UPDATE m SET a = a - 1, b = NULL WHERE c AND b >= 'x'",
	"SELECT DISTINCT a, m.b FROM m WHERE c OR a = 0 ORDER BY -a DESC, b LIMIT 2 OFFSET 1",
	"SELECT DISTINCT x.a, 1 FROM m AS x LEFT JOIN n ON x.a = n.a WHERE TRUE ORDER BY b DESC, 1 LIMIT 3 OFFSET 4",
	"SELECT * FROM n AS x JOIN m ON c OR x.a IS NULL LEFT JOIN b ON b.a AND m.a > x.a WHERE b.a IS NULL",
}

// filled has rows for these statements to go through.
func filled(t *testing.T) *DB {
	t.Helper()
	d := opened(t)
	does(t, d, 1, "INSERT INTO n VALUES (1)", "INSERT INTO n VALUES (NULL)", "INSERT INTO b VALUES (TRUE)", "INSERT INTO m VALUES (1, 'x', TRUE)", "INSERT INTO m VALUES (NULL, NULL, NULL)", "INSERT INTO m VALUES (0, '', FALSE)")
	return d
}

// checkAny: whatever the text, Exec ends, and with an error there is nothing else, and nothing has changed.
func checkAny(t *testing.T, d *DB, text string) {
	t.Helper()
	before := d.Save()
	r, errno := d.Exec(text)
	after := d.Save()
	if errno < api.OK || errno > api.ErrFull {
		t.Errorf("Exec(%q): error %d", text, errno)
	}
	if errno != api.OK && (r.Rows != nil || r.Count != 0 || after != before) {
		t.Errorf("Exec(%q): %v, %d, and Save %q, before %q", text, r, errno, after, before)
	}
	if r.Rows != nil && (r.Count != 0 || after != before) {
		t.Errorf("Exec(%q): %v, and Save %q, before %q", text, r, after, before)
	}
	if errno == api.OK && !strings.Contains(after, "CREATE TABLE m (a INT, b TEXT, c BOOL)\n") {
		t.Errorf("Exec(%q): Save %q", text, after)
	}
	if after != before {
		loaded(t, after)
	}
}

func TestSpoiltStatements(t *testing.T) {
	const bytes = "\x00 '(),.;=<>+-*/%0a_\x80\xff"
	for _, s := range starts {
		d := filled(t)
		for at := range len(s) {
			checkAny(t, d, s[:at])
			checkAny(t, d, s[at:])
			checkAny(t, d, s[:at]+s[at+1:])
			for i := range len(bytes) {
				checkAny(t, d, s[:at]+bytes[i:i+1]+s[at:])
				checkAny(t, d, s[:at]+bytes[i:i+1]+s[at+1:])
			}
		}
	}
}

// TestShortStatements: all rows of up to four of these tokens, in a value.
func TestShortStatements(t *testing.T) {
	tokens := []string{"1", "'x'", "a", "NULL", "TRUE", "NOT", "IS", "AND", "=", "-", "*", "(", ")", "."}
	var rows []string
	for last := []string{""}; len(rows) < 40000; {
		var next []string
		for _, row := range last {
			for _, token := range tokens {
				next = append(next, row+" "+token)
			}
		}
		rows, last = append(rows, next...), next
	}
	d := filled(t)
	for _, row := range rows {
		checkAny(t, d, "INSERT INTO n VALUES ("+row+")")
		checkAny(t, d, "INSERT INTO b VALUES ("+row+")")
		checkAny(t, d, "SELECT "+row+" FROM m ORDER BY a")
		checkAny(t, d, "SELECT c FROM m LEFT JOIN b ON "+row)
		checkAny(t, d, "UPDATE n SET a = "+row)
		checkAny(t, d, "DELETE FROM m WHERE a = 7 AND "+row)
	}
}

func FuzzExec(f *testing.F) {
	for _, s := range starts {
		f.Add(s)
	}
	f.Fuzz(func(t *testing.T, text string) {
		checkAny(t, filled(t), text)
	})
}
