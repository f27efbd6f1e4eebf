package rowmill

import (
	"fmt"
	"math/rand/v2"
	"strings"
	"testing"

	"rowmill/api"
)

// part is a value of a statement, with what it is for a row of a table t (a INT, b TEXT, c BOOL).
type part struct {
	text  string
	kind  int
	worth func(row []api.Value) (api.Value, api.Errno)
}

func number(n int) api.Value { return api.Value{Kind: api.Int, N: n} }

func truthValue(b bool) api.Value {
	if b {
		return api.Value{Kind: api.Bool, N: 1}
	}
	return api.Value{Kind: api.Bool}
}

// ofColumn: NULL, where the column is.
func ofColumn(place int, f func(v api.Value) (api.Value, api.Errno)) func([]api.Value) (api.Value, api.Errno) {
	return func(row []api.Value) (api.Value, api.Errno) {
		if row[place].Kind == api.Null {
			return api.Value{}, api.OK
		}
		return f(row[place])
	}
}

func quotient(v api.Value) (api.Value, api.Errno) {
	if v.N == 1 {
		return api.Value{}, api.ErrZero
	}
	return number(6 / (v.N - 1)), api.OK
}

var parts = []part{
	{"a", api.Int, func(row []api.Value) (api.Value, api.Errno) { return row[0], api.OK }},
	{"t.b", api.Text, func(row []api.Value) (api.Value, api.Errno) { return row[1], api.OK }},
	{"c", api.Bool, func(row []api.Value) (api.Value, api.Errno) { return row[2], api.OK }},
	{"NULL", api.Null, func([]api.Value) (api.Value, api.Errno) { return api.Value{}, api.OK }},
	{"-3", api.Int, func([]api.Value) (api.Value, api.Errno) { return number(-3), api.OK }},
	{"'y'", api.Text, func([]api.Value) (api.Value, api.Errno) { return api.Value{Kind: api.Text, S: "y"}, api.OK }},
	{"2 - a", api.Int, ofColumn(0, func(v api.Value) (api.Value, api.Errno) { return number(2 - v.N), api.OK })},
	{"6 / (a - 1)", api.Int, ofColumn(0, quotient)},
	{"9223372036854775804 + a", api.Int, ofColumn(0, func(v api.Value) (api.Value, api.Errno) {
		if v.N > 3 {
			return api.Value{}, api.ErrRange
		}
		return number(9223372036854775804 + v.N), api.OK
	})},
	{"t.a > 0", api.Bool, ofColumn(0, func(v api.Value) (api.Value, api.Errno) { return truthValue(v.N > 0), api.OK })},
	{"b <= 'x'", api.Bool, ofColumn(1, func(v api.Value) (api.Value, api.Errno) { return truthValue(v.S <= "x"), api.OK })},
	{"NOT c", api.Bool, ofColumn(2, func(v api.Value) (api.Value, api.Errno) { return truthValue(v.N == 0), api.OK })},
	{"c IS NOT NULL", api.Bool, func(row []api.Value) (api.Value, api.Errno) { return truthValue(row[2].Kind != api.Null), api.OK }},
	{"a < 1 OR a > 1 AND 6 / (a - 1) < 4", api.Bool, ofColumn(0, func(v api.Value) (api.Value, api.Errno) {
		return truthValue(v.N < 1 || v.N > 1 && 6/(v.N-1) < 4), api.OK
	})},
	{"6 / (a - 1) > 1", api.Bool, ofColumn(0, func(v api.Value) (api.Value, api.Errno) {
		q, errno := quotient(v)
		if errno != api.OK {
			return q, errno
		}
		return truthValue(q.N > 1), api.OK
	})},
}

// model does by plain steps what the document says of the rows of a source, with these values.
type model struct {
	*rand.Rand
	from  string
	parts []part
	rows  [][]api.Value
}

func (m *model) pick(kind int) part {
	for {
		p := m.parts[m.IntN(len(m.parts))]
		if kind == api.Null || p.kind == kind || p.kind == api.Null {
			return p
		}
	}
}

// where is nil and empty, one time of three.
func (m *model) where() (*part, string) {
	if m.IntN(3) == 0 {
		return nil, ""
	}
	p := m.pick(api.Bool)
	return &p, " WHERE " + p.text
}

func holdsFor(where *part, row []api.Value) (bool, api.Errno) {
	if where == nil {
		return true, api.OK
	}
	v, errno := where.worth(row)
	return v == truthValue(true), errno
}

func (m *model) delete() (string, [][]api.Value, int, api.Errno) {
	where, text := m.where()
	var left [][]api.Value
	for _, row := range m.rows {
		holds, errno := holdsFor(where, row)
		if errno != api.OK {
			return "DELETE FROM t" + text, nil, 0, errno
		}
		if !holds {
			left = append(left, row)
		}
	}
	return "DELETE FROM t" + text, left, len(m.rows) - len(left), api.OK
}

func (m *model) update() (string, [][]api.Value, int, api.Errno) {
	where, whereText := m.where()
	places := m.Perm(3)[:1+m.IntN(3)]
	var values []part
	var texts []string
	for _, place := range places {
		p := m.pick(place + 1)
		values = append(values, p)
		texts = append(texts, "abc"[place:place+1]+" = "+p.text)
	}
	text := "UPDATE t SET " + strings.Join(texts, ", ") + whereText
	var out [][]api.Value
	count := 0
	for _, row := range m.rows {
		holds, errno := holdsFor(where, row)
		if errno != api.OK {
			return text, nil, 0, errno
		}
		next := append([]api.Value{}, row...)
		for i, p := range values {
			if !holds {
				break
			}
			if next[places[i]], errno = p.worth(row); errno != api.OK {
				return text, nil, 0, errno
			}
		}
		if holds {
			count++
		}
		out = append(out, next)
	}
	return text, out, count, api.OK
}

// ask is a SELECT in the making.
type ask struct {
	where          *part
	orders, values []part
	desc           []bool
	distinct       bool
	limit, offset  int
}

func (m *model) ask() (ask, string) {
	q := ask{distinct: m.IntN(2) == 0, limit: 99999}
	var values, orders []string
	for range 1 + m.IntN(3) {
		q.values = append(q.values, m.pick(api.Null))
		values = append(values, q.values[len(q.values)-1].text)
	}
	for range m.IntN(4) {
		p, desc := m.pick(api.Null), m.IntN(2)
		q.orders, q.desc = append(q.orders, p), append(q.desc, desc == 1)
		orders = append(orders, p.text+[]string{"", " DESC"}[desc])
	}
	text := "SELECT " + []string{"", "DISTINCT "}[btoi(q.distinct)] + strings.Join(values, ", ") + " FROM " + m.from
	var where string
	q.where, where = m.where()
	text += where
	if orders != nil {
		text += " ORDER BY " + strings.Join(orders, ", ")
	}
	if m.IntN(3) == 0 {
		q.limit, q.offset = m.IntN(5), m.IntN(4)
		text += fmt.Sprintf(" LIMIT %d OFFSET %d", q.limit, q.offset)
	}
	return q, text
}

func btoi(b bool) int { return truthValue(b).N }

// below: whether the row with one list of ranks must stand ahead of that with the other.
func (q ask) below(x, y []api.Value) bool {
	for i := range x {
		if x[i] == y[i] {
			continue
		}
		if q.desc[i] {
			return !valueBelow(x[i], y[i])
		}
		return valueBelow(x[i], y[i])
	}
	return false
}

func valueBelow(x, y api.Value) bool {
	return x.Kind < y.Kind || x.Kind == y.Kind && (x.N < y.N || x.S < y.S)
}

func worths(all []part, row []api.Value) ([]api.Value, api.Errno) {
	var out []api.Value
	for _, p := range all {
		v, errno := p.worth(row)
		if errno != api.OK {
			return nil, errno
		}
		out = append(out, v)
	}
	return out, api.OK
}

// sorted takes the first row that no other must stand ahead of, again and again.
func (q ask) sorted(rows [][]api.Value) ([][]api.Value, api.Errno) {
	var ranks, out [][]api.Value
	for _, row := range rows {
		r, errno := worths(q.orders, row)
		if errno != api.OK {
			return nil, errno
		}
		ranks = append(ranks, r)
	}
	gone := make([]bool, len(rows))
	for range rows {
		least := -1
		for i := range rows {
			if !gone[i] && (least < 0 || q.below(ranks[i], ranks[least])) {
				least = i
			}
		}
		gone[least] = true
		out = append(out, rows[least])
	}
	return out, api.OK
}

func (q ask) done(all [][]api.Value) ([][]api.Value, api.Errno) {
	var rows, out [][]api.Value
	for _, row := range all {
		holds, errno := holdsFor(q.where, row)
		if errno != api.OK {
			return nil, errno
		}
		if holds {
			rows = append(rows, row)
		}
	}
	rows, errno := q.sorted(rows)
	if errno != api.OK {
		return nil, errno
	}
	for _, row := range rows {
		values, errno := worths(q.values, row)
		if errno != api.OK {
			return nil, errno
		}
		if !q.distinct || !oneOf(out, values) {
			out = append(out, values)
		}
	}
	for ; q.offset > 0 && len(out) > 0; q.offset-- {
		out = out[1:]
	}
	for len(out) > q.limit {
		out = out[:len(out)-1]
	}
	return out, api.OK
}

func oneOf(rows [][]api.Value, row []api.Value) bool {
	for _, r := range rows {
		if fmt.Sprintf("%#v", r) == fmt.Sprintf("%#v", row) {
			return true
		}
	}
	return false
}

// TestModel: statements in a row do what the model does.
func TestModel(t *testing.T) {
	seen := map[string]int{}
	for seed := range 400 {
		m := &model{Rand: rand.New(rand.NewPCG(uint64(seed), 7)), from: "t", parts: parts}
		d := New()
		does(t, d, 0, "CREATE TABLE t (a INT, b TEXT, c BOOL)")
		for range m.IntN(26) {
			m.insert(t, d)
		}
		for range 60 {
			if len(m.rows) < api.MaxRows && m.IntN(2) == 0 {
				m.insert(t, d)
			}
			seen[m.step(t, d)]++
			if t.Failed() {
				return
			}
		}
	}
	for _, verb := range []string{"DELETE", "UPDATE", "SELECT"} {
		for _, errno := range []api.Errno{api.OK, api.ErrZero, api.ErrRange} {
			// No condition of the model's is out of range.
			if n := seen[fmt.Sprint(verb, errno)]; n < 50 && (verb != "DELETE" || errno != api.ErrRange) {
				t.Errorf("%s with %d: %d times", verb, errno, n)
			}
		}
	}
}

func (m *model) insert(t *testing.T, d *DB) {
	t.Helper()
	row := []api.Value{number(m.IntN(6) - 1), {Kind: api.Text, S: []string{"", "x", "y", "'"}[m.IntN(4)]}, truthValue(m.IntN(2) == 0)}
	for i := range row {
		if m.IntN(5) == 0 {
			row[i] = api.Value{}
		}
	}
	does(t, d, 1, "INSERT INTO t VALUES "+inBrackets(row, valueText))
	m.rows = append(m.rows, row)
}

func (m *model) step(t *testing.T, d *DB) string {
	t.Helper()
	var text string
	var rows [][]api.Value
	var count int
	var want api.Errno
	var q ask
	verb := m.IntN(8)
	switch {
	case verb == 0 && len(m.rows) > 4:
		text, rows, count, want = m.delete()
	case verb == 1:
		text, rows, count, want = m.update()
	default:
		q, text = m.ask()
		rows, want = q.done(m.rows)
	}
	r, errno := d.Exec(text)
	if errno != want || r.Count != count {
		t.Fatalf("%q of %s: %d, %d, want %d, %d", text, told(m.rows), r.Count, errno, count, want)
	}
	if !strings.HasPrefix(text, "SELECT") {
		if want == api.OK {
			m.rows = rows
		}
		rows = m.rows
		r, _ = d.Exec("SELECT * FROM t")
	}
	if fmt.Sprintf("%#v", r.Rows) != fmt.Sprintf("%#v", rows) && len(r.Rows)+len(rows) > 0 {
		t.Fatalf("%q: %s, want %s", text, told(r.Rows), told(rows))
	}
	return fmt.Sprint(text[:6], want)
}
