package syntax

import (
	"fmt"
	"math"
	"strings"
	"testing"

	"rowmill/api"
)

// signs: how an op is told in a shape.
var signs = map[Op]string{
	Negate: "neg", Not: "not", IsNull: "null?", IsNotNull: "some?", Add: "+", Subtract: "-", Multiply: "*", Divide: "/", Remainder: "%",
	Equal: "=", Unequal: "<>", Less: "<", LessEqual: "<=", Greater: ">", GreaterEqual: ">=", And: "and", Or: "or",
}

// shape tells a value with all its brackets, the op first.
func shape(v *Value) string {
	switch {
	case v == nil:
		return "nil"
	case v.Op == Literal:
		return [...]string{"NULL", fmt.Sprint(v.Literal.N), fmt.Sprintf("%q", v.Literal.S), fmt.Sprint(v.Literal.N == 1)}[v.Literal.Kind]
	case v.Op == Name && v.Source != "":
		return v.Source + "." + v.Name
	case v.Op == Name:
		return v.Name
	case v.Right == nil:
		return "(" + signs[v.Op] + " " + shape(v.Left) + ")"
	}
	return "(" + signs[v.Op] + " " + shape(v.Left) + " " + shape(v.Right) + ")"
}

func shapes(values []*Value) string {
	var all []string
	for _, v := range values {
		all = append(all, shape(v))
	}
	return strings.Join(all, ", ")
}

// told tells a whole statement.
func told(s Statement) string {
	switch s := s.(type) {
	case *Create:
		return fmt.Sprint("create ", s.Table, " ", s.Columns)
	case *Insert:
		return fmt.Sprint("insert ", s.Table, ": ", shapes(s.Values))
	case *Delete:
		return fmt.Sprint("delete ", s.Table, " where ", shape(s.Where))
	case *Update:
		out := "update " + s.Table
		for _, set := range s.Settings {
			out += fmt.Sprint(" ", set.Column, ": ", shape(set.Value), ";")
		}
		return out + " where " + shape(s.Where)
	case *Select:
		return toldSelect(s)
	}
	return "no statement"
}

func toldSelect(s *Select) string {
	out := fmt.Sprint("select ", s.Distinct, " ", shapes(s.Values), " from")
	for _, x := range s.Sources {
		out += fmt.Sprint(" ", x.Table, " ", x.Name, " ", x.Left, " ", shape(x.On), ";")
	}
	out += " where " + shape(s.Where) + " order"
	for _, o := range s.Orders {
		out += fmt.Sprint(" ", shape(o.Value), " ", o.Desc, ";")
	}
	if s.Limit != math.MaxInt {
		out += fmt.Sprint(" limit ", s.Limit)
	}
	return out + fmt.Sprint(" offset ", s.Offset)
}

func TestStatements(t *testing.T) {
	for text, want := range map[string]string{
		"CREATE TABLE t (a INT)":                                "create t [{a 1}]",
		"create table t(a int,b text,c bool,d int,e int);":      "create t [{a 1} {b 2} {c 3} {d 1} {e 1}]",
		"CREATE TABLE t (a INT, a TEXT) ; ":                     "create t [{a 1} {a 2}]",
		"INSERT INTO t VALUES (1, 'x', NULL, TRUE, FALSE)":      `insert t: 1, "x", NULL, true, false`,
		"insert into t values(1,2,3,4,5,6,7)":                   "insert t: 1, 2, 3, 4, 5, 6, 7",
		"DELETE FROM t":                                         "delete t where nil",
		"DELETE FROM t WHERE a = 1;":                            "delete t where (= a 1)",
		"UPDATE t SET a = 1":                                    "update t a: 1; where nil",
		"UPDATE t SET a = b = c, b = a + 1 WHERE t.a IS NULL":   "update t a: (= b c); b: (+ a 1); where (null? t.a)",
		"UPDATE t SET a = 1, a = 2":                             "update t a: 1; a: 2; where nil",
		"SELECT * FROM t":                                       "select false  from t t false nil; where nil order offset 0",
		"SELECT DISTINCT * FROM t AS x":                         "select true  from t x false nil; where nil order offset 0",
		"SELECT a, x . b FROM t AS x":                           "select false a, x.b from t x false nil; where nil order offset 0",
		"SELECT a FROM t JOIN u ON TRUE":                        "select false a from t t false nil; u u false true; where nil order offset 0",
		"SELECT a FROM t LEFT JOIN u AS x ON a JOIN v ON b;":    "select false a from t t false nil; u x true a; v v false b; where nil order offset 0",
		"SELECT a FROM t WHERE b OR c":                          "select false a from t t false nil; where (or b c) order offset 0",
		"SELECT a FROM t ORDER BY b DESC, c + 1, d":             "select false a from t t false nil; where nil order b true; (+ c 1) false; d false; offset 0",
		"SELECT a FROM t LIMIT 0":                               "select false a from t t false nil; where nil order limit 0 offset 0",
		"SELECT a FROM t LIMIT 3 OFFSET 4":                      "select false a from t t false nil; where nil order limit 3 offset 4",
		"SELECT 1 FROM t WHERE a ORDER BY b LIMIT 2 OFFSET 1 ;": "select false 1 from t t false nil; where a order b false; limit 2 offset 1",
	} {
		s, ok := Read(text)
		if !ok || told(s) != want {
			t.Errorf("Read(%q): %t, %s, want %s", text, ok, told(s), want)
		}
	}
}

func TestValues(t *testing.T) {
	for text, want := range map[string]string{
		"a OR b OR c":                "(or (or a b) c)",
		"a AND b AND c":              "(and (and a b) c)",
		"a OR b AND c OR d":          "(or (or a (and b c)) d)",
		"(a OR b) AND c":             "(and (or a b) c)",
		"NOT a AND NOT NOT b":        "(and (not a) (not (not b)))",
		"NOT a = b":                  "(not (= a b))",
		"NOT a IS NULL":              "(not (null? a))",
		"a = 1 AND b <> 2":           "(and (= a 1) (<> b 2))",
		"a < b OR a <= b OR a > b":   "(or (or (< a b) (<= a b)) (> a b))",
		"a >= b":                     "(>= a b)",
		"a + 1 IS NOT NULL":          "(some? (+ a 1))",
		"(a = b) IS NULL":            "(null? (= a b))",
		"a + b - c + d":              "(+ (- (+ a b) c) d)",
		"a * b / c % d * e":          "(* (% (/ (* a b) c) d) e)",
		"a + b * c - d / e":          "(- (+ a (* b c)) (/ d e))",
		"(a + b) * -c":               "(* (+ a b) (neg c))",
		"a - -b":                     "(- a (neg b))",
		"a--b":                       "(- a (neg b))",
		"-a * b":                     "(* (neg a) b)",
		"- - a + b":                  "(+ (neg (neg a)) b)",
		"-(a + b) = -'x'":            `(= (neg (+ a b)) (neg "x"))`,
		"a+1<b*2":                    "(< (+ a 1) (* b 2))",
		"x.a = y . b":                "(= x.a y.b)",
		"((a))":                      "a",
		"'it''s' = TRUE":             `(= "it's" true)`,
		"1IS NULL":                   "(null? 1)",
		"NULL IS NULL AND NOT FALSE": "(and (null? NULL) (not false))",
		"9223372036854775807":        "9223372036854775807",
		"(NOT a) = (b OR c)":         "(= (not a) (or b c))",
		strings.Repeat("(", 20) + "a" + strings.Repeat(")", 20): "a",
	} {
		s, ok := Read("INSERT INTO t VALUES (" + text + ")")
		if want = "insert t: " + want; !ok || told(s) != want {
			t.Errorf("Read of %q: %t, %s, want %s", text, ok, told(s), want)
		}
	}
}

// positions: where a value may stand.
var positions = []string{
	"INSERT INTO t VALUES (@)", "INSERT INTO t VALUES (1, @, 2)", "DELETE FROM t WHERE @", "UPDATE t SET a = @", "UPDATE t SET a = 1, b = @ WHERE TRUE",
	"UPDATE t SET a = 1 WHERE @", "SELECT @ FROM t", "SELECT DISTINCT 1, @, 2 FROM t", "SELECT a FROM t JOIN u ON @ WHERE TRUE", "SELECT a FROM t LEFT JOIN u ON @",
	"SELECT a FROM t WHERE @ LIMIT 1", "SELECT a FROM t ORDER BY @", "SELECT a FROM t ORDER BY 1, @ DESC LIMIT 1 OFFSET 2",
}

func at(position, value string) string {
	return strings.Replace(position, "@", value, 1)
}

func reads(t *testing.T, text string, want bool) {
	t.Helper()
	if s, ok := Read(text); ok != want || ok == (s == nil) {
		t.Errorf("Read(%q): %v, %t, want %t", text, s, ok, want)
	}
}

func TestValuesInPlace(t *testing.T) {
	for _, position := range positions {
		for _, value := range []string{"1", "a", "x.a", "'it''s'", "NULL", "a AND NOT b OR c", "(a + 1) * 2 >= -b", "a IS NOT NULL"} {
			reads(t, at(position, value), true)
		}
		for _, value := range []string{
			"", "+1", "* 1", "1 +", "1 + * 2", "a b", "1 2", "'a' 'b'", "(1", "1)", "()", "1 IS 1", "1 IS", "1 IS NOT", "1 IS NOT TRUE", "1 NOT NULL", "1 < 2 < 3", "1 = 1 = 1",
			"1 IS NULL IS NULL", "1 = 2 IS NULL", "1 == 1", "1 != 1", "1 < > 1", "1 > = 1", "1 =< 1", "NOT", "NOT NOT", "1 + NOT a", "- NOT a", "a = NOT b", "a AND", "AND a", "a OR OR b", "a OR AND b",
			"a.", ".a", "a.b.c", "a.1", "1.5", "a.*", "a.select", "select.a", "select", "elevenbytes", "elevenbytes.a", "a.elevenbytes", "9223372036854775808", "'a", "a AS b", "SELECT a FROM t", "(SELECT a FROM t)", "a ! b", "a; b",
		} {
			reads(t, at(position, value), false)
		}
	}
}

func TestDepth(t *testing.T) {
	deep := func(open string, n int, close string) string {
		return strings.Repeat(open, n) + "1" + strings.Repeat(close, n)
	}
	for _, position := range positions {
		for _, c := range []struct{ open, close string }{{"(", ")"}, {"-", ""}, {"NOT ", ""}} {
			reads(t, at(position, deep(c.open, 20, c.close)), true)
			reads(t, at(position, deep(c.open, 21, c.close)), false)
			// What is too deep is not passed over.
			reads(t, at(position, strings.Repeat(c.open, 21)+strings.Repeat(c.close, 21)), false)
			// Side by side is no deeper.
			reads(t, at(position, "("+deep(c.open, 19, c.close)+") = ("+deep(c.open, 19, c.close)+")"), true)
			reads(t, at(position, "("+deep(c.open, 19, c.close)+") = ("+deep(c.open, 20, c.close)+")"), false)
		}
		reads(t, at(position, deep("NOT (-(", 5, "))")), true)
		reads(t, at(position, "NOT (-(NOT (-("+deep("(", 12, ")")+"))))"), true)
		reads(t, at(position, "NOT (-(NOT (-("+deep("(", 13, ")")+"))))"), false)
		reads(t, at(position, deep("(-", 10, ")")), true)
		reads(t, at(position, "-"+deep("(-", 10, ")")), false)
	}
	// Each value begins anew.
	reads(t, "INSERT INTO t VALUES ("+deep("(", 20, ")")+", "+deep("(", 20, ")")+")", true)
}

func TestNoStatements(t *testing.T) {
	for _, text := range []string{
		"", " ", ";", "x", "1", "'x'", "CREATE", "INSERT", "DELETE", "UPDATE", "SELECT", "; DELETE FROM t", "DELETE FROM t;;", "DELETE FROM t; DELETE FROM t", "DELETE FROM t x", "DROP TABLE t", "DELETE FROM t\r",
		"CREATE TABLE t", "CREATE TABLE t ()", "CREATE TABLE t (a)", "CREATE TABLE t (INT)", "CREATE TABLE t (a INT,)", "CREATE TABLE t (, a INT)", "CREATE TABLE t (a INT b INT)", "CREATE TABLE t (a INT", "CREATE TABLE t a INT", "CREATE TABLE t (a INT))", "CREATE TABLE (a INT)", "CREATE t (a INT)", "CREATE TABLE 't' (a INT)", "CREATE TABLE t (a NULL)", "CREATE TABLE t (a INT NOT NULL)", "CREATE TABLE t (x.a INT)",
		"CREATE TABLE t (a INT, b INT, c INT, d INT, e INT, f INT)", "CREATE TABLE elevenbytes (a INT)", "CREATE TABLE t (elevenbytes INT)", "CREATETABLE t (a INT)", "CREATE TABLE table (a INT)", "CREATE TABLE t (Order INT)",
		"INSERT t VALUES (1)", "INSERT INTO VALUES (1)", "INSERT INTO t (1)", "INSERT INTO t VALUES", "INSERT INTO t VALUES ()", "INSERT INTO t VALUES 1", "INSERT INTO t VALUES (1), (2)", "INSERT INTO t VALUES (1 2)", "INSERT INTO t VALUES (1,)", "INSERT INTO t VALUES (*)", "INSERT INTO t (a) VALUES (1)", "INSERT INTO t VALUES (1) WHERE TRUE",
		"DELETE t", "DELETE FROM", "DELETE FROM t WHERE", "DELETE FROM t, u", "DELETE FROM t AS x", "DELETE * FROM t", "DELETE FROM t LIMIT 1", "DELETE FROM t.u", "DELETE FROM t WHERE a WHERE b",
		"UPDATE t", "UPDATE SET a = 1", "UPDATE t SET", "UPDATE t SET a", "UPDATE t SET a =", "UPDATE t SET a = 1,", "UPDATE t SET a = 1 b = 2", "UPDATE t SET a < 1", "UPDATE t SET t.a = 1", "UPDATE t SET 1 = 1", "UPDATE t SET (a = 1)", "UPDATE t WHERE TRUE", "UPDATE t SET a = 1 WHERE", "UPDATE t AS x SET a = 1", "UPDATE t SET a = 1 ORDER BY a",
		"SELECT FROM t", "SELECT *", "SELECT a", "SELECT a FROM", "SELECT *, a FROM t", "SELECT a, * FROM t", "SELECT * 2 FROM t", "SELECT (*) FROM t", "SELECT t.* FROM t", "SELECT (a, b) FROM t", "SELECT a, FROM t", "SELECT , a FROM t", "SELECT a b FROM t", "SELECT DISTINCT FROM t", "SELECT DISTINCT DISTINCT a FROM t", "SELECT a DISTINCT FROM t",
		"SELECT a FROM t x", "SELECT a FROM t AS", "SELECT a FROM t AS 1", "SELECT a FROM t AS x AS y", "SELECT a FROM t, u", "SELECT a FROM (t)", "SELECT a FROM 't'", "SELECT a FROM JOIN u ON TRUE", "SELECT a FROM t JOIN u", "SELECT a FROM t JOIN ON TRUE", "SELECT a FROM t JOIN u ON", "SELECT a FROM t LEFT u ON TRUE", "SELECT a FROM t LEFT", "SELECT a FROM t LEFT LEFT JOIN u ON TRUE", "SELECT a FROM t ON TRUE", "SELECT a FROM t JOIN u WHERE TRUE", "SELECT a FROM t WHERE TRUE JOIN u ON TRUE",
		"SELECT a FROM t JOIN u ON 1 JOIN v ON 1 JOIN w ON 1", "SELECT a FROM t LEFT JOIN u ON 1 LEFT JOIN v ON 1 LEFT JOIN w ON 1",
		"SELECT a FROM t WHERE", "SELECT a FROM t ORDER a", "SELECT a FROM t ORDER BY", "SELECT a FROM t ORDER BY a,", "SELECT a FROM t ORDER BY a ASC", "SELECT a FROM t ORDER BY DESC", "SELECT a FROM t ORDER BY a DESC DESC", "SELECT a FROM t ORDER BY a WHERE b", "SELECT a FROM t ORDER BY *",
		"SELECT a FROM t LIMIT", "SELECT a FROM t LIMIT -1", "SELECT a FROM t LIMIT a", "SELECT a FROM t LIMIT 'x'", "SELECT a FROM t LIMIT (1)", "SELECT a FROM t LIMIT 1 + 1", "SELECT a FROM t LIMIT 1, 2", "SELECT a FROM t OFFSET 1", "SELECT a FROM t LIMIT 1 OFFSET", "SELECT a FROM t LIMIT 1 OFFSET -1", "SELECT a FROM t OFFSET 1 LIMIT 1", "SELECT a FROM t LIMIT 1 ORDER BY a", "SELECT a FROM t LIMIT 9223372036854775808",
	} {
		reads(t, text, false)
	}
	reads(t, "SELECT a FROM t JOIN u ON 1 LEFT JOIN v ON 1", true)
	reads(t, "SELECT a FROM t LIMIT 9223372036854775807 OFFSET 9223372036854775807", true)
}

func TestLength(t *testing.T) {
	for _, text := range []string{"DELETE FROM t", "SELECT * FROM t;", "INSERT INTO t VALUES (1" + strings.Repeat("+1", 250) + ")"} {
		reads(t, text+strings.Repeat(" ", api.MaxText-len(text)), true)
		reads(t, text+strings.Repeat(" ", api.MaxText+1-len(text)), false)
	}
	reads(t, strings.Repeat("(", 5000000), false)
}
