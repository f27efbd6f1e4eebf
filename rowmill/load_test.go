package rowmill

import (
	"fmt"
	"math"
	"regexp"
	"slices"
	"strconv"
	"strings"
	"testing"

	"rowmill/api"
)

// loaded: a text is taken, and told again as it was.
func loaded(t *testing.T, text string) *DB {
	t.Helper()
	d, errno := Load(text)
	if d == nil || errno != api.OK {
		t.Fatalf("Load(%.200q): a database %t, %d", text, d != nil, errno)
	}
	if got := d.Save(); got != text {
		t.Errorf("Load(%.200q), and Save: %q", text, got)
	}
	return d
}

func notLoaded(t *testing.T, texts ...string) {
	t.Helper()
	for _, text := range texts {
		if d, errno := Load(text); d != nil || errno != api.ErrBytes {
			t.Errorf("Load(%.200q): a database %t, %d", text, d != nil, errno)
		}
	}
}

const small = "CREATE TABLE t (a INT, b TEXT, c BOOL)\n" +
	"INSERT INTO t VALUES (1, 'x', TRUE)\n" +
	"INSERT INTO t VALUES (-12, 'it''s', FALSE)\n" +
	"CREATE TABLE u (_ INT)\n" +
	"INSERT INTO u VALUES (-9223372036854775807 - 1)\n" +
	"INSERT INTO u VALUES (NULL)\n" +
	"CREATE TABLE v (a TEXT)\n" +
	"INSERT INTO v VALUES ('\n;')\n"

func TestLoad(t *testing.T) {
	loaded(t, "")
	d := loaded(t, small)
	asked(t, d, "SELECT * FROM t", "1,x,T -12,it's,F")
	asked(t, d, "SELECT * FROM u", "-9223372036854775808 -")
	asked(t, d, "SELECT * FROM v", "\n;")
	asked(t, d, "SELECT t.a, _ FROM t LEFT JOIN u ON _ < a AND c", "1,-9223372036854775808 -12,-")
	loaded(t, "CREATE TABLE t (a INT)\n")
	loaded(t, "CREATE TABLE abcdefghij (a BOOL, A INT, _b TEXT, a123456789 INT, B BOOL)\nINSERT INTO abcdefghij VALUES (NULL, NULL, NULL, NULL, NULL)\n")
	loaded(t, "CREATE TABLE t (a INT)\nINSERT INTO t VALUES (9223372036854775807)\nINSERT INTO t VALUES (0)\nINSERT INTO t VALUES (-9223372036854775807)\n")
}

// TestLoadTexts: texts with quotes, newlines and any byte, and those that look like the lines around them.
func TestLoadTexts(t *testing.T) {
	texts := []string{"", "'", "''", "\n", "'\n", "\n'", "'\n'", ";", "x');\n", "')\nINSERT INTO t VALUES ('", "\nCREATE TABLE u (a INT)\n", "')\nCREATE TABLE u (a INT)\n", "NULL", " - 1", ", ", "'''", strings.Repeat("'", 40), strings.Repeat("\n", 40), strings.Repeat("'\n", 20), "\r\n\t\x00", "\xff\xfe", "ä€"}
	for i := range 256 {
		texts = append(texts, string([]byte{byte(i)}), string([]byte{byte(i), '\'', byte(i), '\n'}))
	}
	for some := range slices.Chunk(texts, 20) {
		d := New()
		does(t, d, 0, "CREATE TABLE t (a TEXT)")
		for _, text := range some {
			does(t, d, 1, "INSERT INTO t VALUES ("+valueText(api.Value{Kind: api.Text, S: text})+")")
		}
		r, _ := loaded(t, d.Save()).Exec("SELECT a FROM t")
		for i, text := range some {
			if len(r.Rows) != len(some) || r.Rows[i][0] != (api.Value{Kind: api.Text, S: text}) {
				t.Errorf("%q is loaded as %q", text, told(r.Rows))
			}
		}
	}
}

// fullest is as great a database as there can be.
func fullest(t *testing.T) *DB {
	t.Helper()
	d := New()
	quotes := "'" + strings.Repeat("''", 40) + "'"
	for i := range api.MaxTables {
		name := fmt.Sprintf("abcdefghi%d", i)
		does(t, d, 0, "CREATE TABLE "+name+" (a123456789 TEXT, b123456789 TEXT, c123456789 TEXT, d123456789 TEXT, e123456789 INT)")
		for range api.MaxRows {
			does(t, d, 1, "INSERT INTO "+name+" VALUES ("+strings.Repeat(quotes+", ", 4)+"-9223372036854775807 - 1)")
		}
	}
	return d
}

func TestLoadBounds(t *testing.T) {
	full := fullest(t).Save()
	d := loaded(t, full)
	refused(t, d, api.ErrFull, "CREATE TABLE t (a INT)", "INSERT INTO abcdefghi5 VALUES ('', '', '', '', 1)")
	last := full[strings.LastIndex(full, "INSERT"):]
	notLoaded(t, full+last, full+"CREATE TABLE t (a INT)\n", full[:len(full)-1], full+"\n", full+full)
	notLoaded(t, strings.Replace(full, "('''", "('''''", 1), strings.Replace(full, "abcdefghi0", "abcdefghij0", -1), strings.Replace(full, "807 - 1", "808 - 1", 1), strings.Replace(full, "807 - 1", "807 - 2", 1))
	loaded(t, strings.TrimSuffix(full, last))
	wide := "CREATE TABLE t (a INT, b INT, c INT, d INT, e INT)\n"
	loaded(t, wide)
	notLoaded(t, strings.Replace(wide, ")", ", f INT)", 1))
}

func TestLoadRefuses(t *testing.T) {
	notLoaded(t, "\n", " ", ";", "x", "'", "\x00", "''", "'\n", "\n\n", ";\n", "\r\n", "CREATE", "INSERT INTO t VALUES (1)\n", "SELECT 1 FROM t\n", "DELETE FROM t\n")
	notLoaded(t, small+" ", small+"\n", small+"\x00", small+";", " "+small, "\n"+small, "\ufeff"+small, small+"'", strings.ToLower(small), strings.ReplaceAll(small, "\n", "\r\n"), strings.ReplaceAll(small, " ", "  "), strings.ReplaceAll(small, ", ", ","), strings.ReplaceAll(small, ")\n", ");\n"), strings.ReplaceAll(small, "\n", ""), strings.ReplaceAll(small, "\n", " "), strings.ReplaceAll(small, " ", "\n"))
	// Statements that are done, but that nobody saves.
	notLoaded(t, small+"DELETE FROM v WHERE FALSE\n", small+"UPDATE u SET _ = _\n", small+"SELECT * FROM t\n", small+"INSERT INTO v VALUES ('x')\nDELETE FROM v WHERE a = 'x'\n", small+"INSERT INTO t VALUES (1, 'x', TRUE)\n", small+"INSERT INTO u VALUES (1)\n", "DELETE FROM t\n"+small, small+"INSERT INTO v VALUES (1)\n", small+"INSERT INTO w VALUES (1)\n", small+"CREATE TABLE v (a INT)\n", small+"CREATE TABLE w (a INT, a INT)\n", small+"CREATE TABLE w ()\n", small+"CREATE TABLE from (a INT)\n", small+"CREATE TABLE w (Int INT)\n", small+"CREATE TABLE w (a int)\n", small+"CREATE TABLE elevenbytes (a INT)\n", small+"INSERT INTO v VALUES ('x'); INSERT INTO v VALUES ('x')\n")
	for _, value := range []string{"01", "+1", "-0", "--1", "- 1", "(1)", "1 + 0", "0 + 1", "2 - 1", "00", "1 - 0", "-(1)", "9223372036854775808", "-9223372036854775808", "-9223372036854775807 -1", "-9223372036854775807 - 0", "-9223372036854775806 - 1", "-9223372036854775806 - 2", "(-9223372036854775807 - 1)", "1 / 0", "null", "-NULL", "NULL + 1", "'1'", "TRUE", "a", "t.a", "", "1.0", "1, 2", "1;"} {
		notLoaded(t, "CREATE TABLE t (a INT)\nINSERT INTO t VALUES ("+value+")\n")
	}
	for _, value := range []string{"x", "'x", "x'", "'''", "'x''", "''''''x'", "\"x\"", "('x')", "null", "NULL = 1", "1", "TRUE", "'" + strings.Repeat("x", 41) + "'", "'" + strings.Repeat("''", 41) + "'", "'x' ", "'x', 'x'"} {
		notLoaded(t, "CREATE TABLE t (a TEXT)\nINSERT INTO t VALUES ("+value+")\n")
	}
	for _, value := range []string{"true", "True", "1", "0", "NOT TRUE", "1 = 1", "NULL IS NULL", "NULL AND FALSE", "(TRUE)", "'TRUE'", "false", "NOT NULL"} {
		notLoaded(t, "CREATE TABLE t (a BOOL)\nINSERT INTO t VALUES ("+value+")\n")
	}
}

const (
	aName = `[A-Za-z_][A-Za-z0-9_]{0,9}`
	aType = `(?:INT|TEXT|BOOL)`
	words = " CREATE TABLE INSERT INTO VALUES DELETE FROM WHERE UPDATE SET SELECT DISTINCT AS LEFT JOIN ON ORDER BY DESC LIMIT OFFSET AND OR NOT IS NULL TRUE FALSE INT TEXT BOOL "
)

var (
	created = regexp.MustCompile(`^CREATE TABLE (` + aName + `) \((` + aName + ` ` + aType + `(?:, ` + aName + ` ` + aType + `){0,4})\)\n`)
	shapes  = map[string]string{"INT": `(NULL|0|-?[1-9][0-9]{0,18}|-9223372036854775807 - 1)`, "TEXT": `(NULL|'(?:[^']|'')*')`, "BOOL": `(NULL|TRUE|FALSE)`}
)

// couldBeSaved looks at a text by its shape alone, without doing what it says.
func couldBeSaved(text string) bool {
	tables := map[string]bool{}
	for text != "" {
		m := created.FindStringSubmatch(text)
		if m == nil || tables[m[1]] || isWord(m[1]) || len(tables) == api.MaxTables {
			return false
		}
		tables[m[1]] = true
		columns := map[string]bool{}
		var values []string
		for column := range strings.SplitSeq(m[2], ", ") {
			name, kind, _ := strings.Cut(column, " ")
			if columns[name] || isWord(name) {
				return false
			}
			columns[name] = true
			values = append(values, shapes[kind])
		}
		rest, ok := withoutRows(text[len(m[0]):], regexp.MustCompile(`^INSERT INTO `+m[1]+` VALUES \(`+strings.Join(values, ", ")+`\)\n`))
		if !ok {
			return false
		}
		text = rest
	}
	return true
}

func isWord(name string) bool { return strings.Contains(words, " "+strings.ToUpper(name)+" ") }

func withoutRows(text string, row *regexp.Regexp) (string, bool) {
	for n := 0; ; n++ {
		m := row.FindStringSubmatch(text)
		if m == nil {
			return text, true
		}
		if n == api.MaxRows || slices.ContainsFunc(m[1:], outOfBounds) {
			return "", false
		}
		text = text[len(m[0]):]
	}
}

func outOfBounds(value string) bool {
	if inner, ok := strings.CutPrefix(value, "'"); ok {
		return len(strings.ReplaceAll(inner[:len(inner)-1], "''", "'")) > api.MaxString
	}
	n, err := strconv.Atoi(value)
	return err != nil && strings.Trim(value, "-0123456789") == "" || n == math.MinInt
}

// judged: Load and the look at a text's shape agree on it.
func judged(t *testing.T, text string) bool {
	t.Helper()
	good := couldBeSaved(text)
	d, errno := Load(text)
	switch {
	case good && (d == nil || errno != api.OK || d.Save() != text):
		t.Errorf("Load(%q): a database %t, %d", text, d != nil, errno)
	case !good && (d != nil || errno != api.ErrBytes):
		t.Errorf("Load(%q): a database %t, %d, want none", text, d != nil, errno)
	}
	return good
}

// TestLoadSpoilt: a byte turned, left out or put in at any place, and the text cut off there.
func TestLoadSpoilt(t *testing.T) {
	const bytes = "\x00\t\n\r !\"'()*+,-./012789:;<=>?@AEINRTUZ[_`abtuvxz{\x7f\x80\xc3\xff"
	good, bad := 0, 0
	count := func(text string) {
		if judged(t, text) {
			good++
		} else {
			bad++
		}
	}
	count(small)
	for at := range len(small) {
		count(small[:at])
		count(small[at:])
		count(small[:at] + small[at+1:])
		for i := range len(bytes) {
			count(small[:at] + bytes[i:i+1] + small[at+1:])
			count(small[:at] + bytes[i:i+1] + small[at:])
		}
	}
	if good < 1000 || bad < 20000 {
		t.Errorf("%d were good, %d bad", good, bad)
	}
}

// TestLoadLines: lines left out, told twice, or in another order.
func TestLoadLines(t *testing.T) {
	lines := strings.SplitAfter(small, "\n")
	lines = append(lines[:7], lines[7]+lines[8])
	for i := range lines {
		judged(t, strings.Join(slices.Concat(lines[:i], lines[i+1:]), ""))
		for k := range lines {
			judged(t, strings.Join(slices.Concat(lines[:i], lines[k:k+1], lines[i:]), ""))
			swapped := slices.Clone(lines)
			swapped[i], swapped[k] = lines[k], lines[i]
			judged(t, strings.Join(swapped, ""))
		}
	}
}

// TestLoadEnds: however long the text is, and whatever it would do.
func TestLoadEnds(t *testing.T) {
	const n = 3000000
	for _, piece := range []string{"'", "''", "\n", "'\n", " ", "(", "x", "1", "\x00", "SELECT 1 FROM t AS x JOIN t AS y ON TRUE\n", "CREATE TABLE t (a INT)\n", "INSERT INTO v VALUES ('x')\n", "DELETE FROM v\n", "INSERT INTO v VALUES ('"} {
		long := strings.Repeat(piece, n/len(piece))
		notLoaded(t, long, small+long, small+long+"\n")
	}
}

// TestLoadOwn: databases that were loaded go on by themselves.
func TestLoadOwn(t *testing.T) {
	d := loaded(t, small)
	text := d.Save()
	one, other := loaded(t, text), loaded(t, text)
	does(t, one, 2, "DELETE FROM t")
	does(t, one, 2, "UPDATE u SET _ = 7")
	does(t, one, 1, "INSERT INTO v VALUES ('new')")
	does(t, one, 0, "CREATE TABLE w (a INT)")
	does(t, other, 1, "INSERT INTO t VALUES (5, 'other', NULL)", "UPDATE t SET a = 9 WHERE c")
	does(t, d, 1, "DELETE FROM v")
	saved(t, one, "CREATE TABLE t (a INT, b TEXT, c BOOL)", "CREATE TABLE u (_ INT)", "INSERT INTO u VALUES (7)", "INSERT INTO u VALUES (7)", "CREATE TABLE v (a TEXT)", "INSERT INTO v VALUES ('\n;')", "INSERT INTO v VALUES ('new')", "CREATE TABLE w (a INT)")
	asked(t, other, "SELECT * FROM t", "9,x,T -12,it's,F 5,other,-")
	asked(t, d, "SELECT * FROM t", "1,x,T -12,it's,F")
	asked(t, d, "SELECT * FROM v", "")
	refused(t, other, api.ErrName, "SELECT * FROM w")
	if again := loaded(t, one.Save()); again.Save() != one.Save() {
		t.Errorf("Save: %q, want %q", again.Save(), one.Save())
	}
	if text != small {
		t.Errorf("the text has changed: %q", text)
	}
}

func FuzzLoad(f *testing.F) {
	f.Add("")
	f.Add(small)
	f.Add("CREATE TABLE t (a TEXT)\n" + strings.Repeat("INSERT INTO t VALUES ('''')\n", 3))
	f.Fuzz(func(t *testing.T, text string) {
		judged(t, text)
	})
}
