package rowmill

import (
	"fmt"
	"math/rand/v2"
	"testing"

	"rowmill/api"
)

// shelf is a table of the model's.
type shelf struct {
	name, columns string
	kinds         []int
	rows          [][]api.Value
}

var (
	names = map[string]string{"t": "abc", "u": "ade"}
	kinds = map[string][]int{"t": {api.Int, api.Text, api.Bool}, "u": {api.Int, api.Int, api.Text}}
)

// place is a column of a joined row.
type place struct {
	text     string
	kind, at int
}

// scope is the columns of the sources so far.
type scope struct {
	sources []string
	names   []string
	kinds   []int
}

// places: a column is named alone only if no other source has one of its name, and then one time of two.
func (m *model) places(s scope) []place {
	var all []place
	for i, name := range s.names {
		others := 0
		for _, other := range s.names {
			if other == name {
				others++
			}
		}
		text := s.sources[i] + "." + name
		if others == 1 && m.IntN(2) == 0 {
			text = name
		}
		all = append(all, place{text, s.kinds[i], i})
	}
	return all
}

// partsOf: each column by itself, in what its type allows, and held against each other of its type.
func partsOf(places []place) []part {
	all := []part{
		{"NULL", api.Null, func([]api.Value) (api.Value, api.Errno) { return api.Value{}, api.OK }},
		{"TRUE", api.Bool, func([]api.Value) (api.Value, api.Errno) { return truthValue(true), api.OK }},
	}
	for _, p := range places {
		all = append(all,
			part{p.text, p.kind, func(row []api.Value) (api.Value, api.Errno) { return row[p.at], api.OK }},
			part{p.text + " IS NULL", api.Bool, func(row []api.Value) (api.Value, api.Errno) {
				return truthValue(row[p.at].Kind == api.Null), api.OK
			}})
		if p.kind == api.Int {
			all = append(all,
				part{"6 / (" + p.text + " - 1)", api.Int, ofColumn(p.at, quotient)},
				part{p.text + " < 2 OR " + p.text + " + 9223372036854775804 > 0", api.Bool, ofColumn(p.at, func(v api.Value) (api.Value, api.Errno) {
					if v.N > 3 {
						return api.Value{}, api.ErrRange
					}
					return truthValue(true), api.OK
				})},
				part{p.text + " > 1 OR 6 / (" + p.text + " - 1) < -4", api.Bool, ofColumn(p.at, func(v api.Value) (api.Value, api.Errno) {
					if v.N == 1 {
						return api.Value{}, api.ErrZero
					}
					return truthValue(v.N > 1 || v.N == 0), api.OK
				})})
		}
		for _, q := range places {
			if q.kind == p.kind && q.at != p.at {
				all = append(all, heldAgainst(p, q, " = ", false), heldAgainst(p, q, " < ", true))
			}
		}
	}
	return all
}

func heldAgainst(p, q place, sign string, below bool) part {
	return part{p.text + sign + q.text, api.Bool, func(row []api.Value) (api.Value, api.Errno) {
		x, y := row[p.at], row[q.at]
		switch {
		case x.Kind == api.Null || y.Kind == api.Null:
			return api.Value{}, api.OK
		case below:
			return truthValue(valueBelow(x, y)), api.OK
		}
		return truthValue(x == y), api.OK
	}}
}

// fill makes a table of the database and of the model.
func (m *model) fill(t *testing.T, d *DB, name, columns string) *shelf {
	t.Helper()
	s := &shelf{name: name, columns: names[name], kinds: kinds[name]}
	does(t, d, 0, "CREATE TABLE "+name+columns)
	for range m.IntN(10) {
		var row []api.Value
		for _, kind := range s.kinds {
			row = append(row, [...]api.Value{{}, number(m.IntN(6) - 1), {Kind: api.Text, S: []string{"", "x", "y", "'"}[m.IntN(4)]}, truthValue(m.IntN(2) == 0)}[kind*btoi(m.IntN(6) > 0)])
		}
		does(t, d, 1, "INSERT INTO "+name+" VALUES "+inBrackets(row, valueText))
		s.rows = append(s.rows, row)
	}
	return s
}

// joined makes the sources of a SELECT, and does what the document says of them.
func (m *model) joined(shelves []*shelf) (api.Errno, scope) {
	var so scope
	var errno api.Errno
	m.from, m.rows = "", nil
	for i, name := range []string{"x", "y", "z"}[:1+m.IntN(3)] {
		s := shelves[m.IntN(len(shelves))]
		text := s.name + " AS " + name
		if m.IntN(2) == 0 && (i == 0 || s.name != so.sources[0]) && (len(so.sources) <= 3 || s.name != so.sources[3]) {
			name, text = s.name, s.name
		}
		for k, kind := range s.kinds {
			so.sources, so.names, so.kinds = append(so.sources, name), append(so.names, s.columns[k:k+1]), append(so.kinds, kind)
		}
		if i == 0 {
			m.from, m.rows = text, s.rows
			continue
		}
		m.parts = partsOf(m.places(so))
		on, left := m.pick(api.Bool), m.IntN(2)
		m.from += []string{" JOIN ", " LEFT JOIN "}[left] + text + " ON " + on.text
		if errno == api.OK {
			errno = m.join(s, on, left == 1)
		}
	}
	return errno, so
}

func (m *model) join(s *shelf, on part, left bool) api.Errno {
	var rows [][]api.Value
	for _, row := range m.rows {
		found := false
		for _, own := range s.rows {
			both := append(append([]api.Value{}, row...), own...)
			v, errno := on.worth(both)
			if errno != api.OK {
				return errno
			}
			if v == truthValue(true) {
				found = true
				rows = append(rows, both)
			}
		}
		if left && !found {
			rows = append(rows, append(append([]api.Value{}, row...), make([]api.Value, len(s.kinds))...))
		}
	}
	m.rows = rows
	return api.OK
}

// TestJoinModel: joins of tables with random rows tell what the model does.
func TestJoinModel(t *testing.T) {
	seen, long := map[api.Errno]int{}, 0
	for seed := range 300 {
		m := &model{Rand: rand.New(rand.NewPCG(uint64(seed), 8))}
		d := New()
		shelves := []*shelf{m.fill(t, d, "t", " (a INT, b TEXT, c BOOL)"), m.fill(t, d, "u", " (a INT, d INT, e TEXT)")}
		for range 60 {
			want, so := m.joined(shelves)
			m.parts = partsOf(m.places(so))
			q, text := m.ask()
			var rows [][]api.Value
			if want == api.OK {
				rows, want = q.done(m.rows)
			}
			r, errno := d.Exec(text)
			if errno != want || r.Count != 0 {
				t.Fatalf("%q of %s: %d, want %d", text, d.Save(), errno, want)
			}
			if fmt.Sprintf("%#v", r.Rows) != fmt.Sprintf("%#v", rows) && len(r.Rows)+len(rows) > 0 {
				t.Fatalf("%q of %s: %s, want %s", text, d.Save(), told(r.Rows), told(rows))
			}
			seen[errno]++
			if len(rows) > 4 {
				long++
			}
		}
	}
	for _, errno := range []api.Errno{api.OK, api.ErrZero, api.ErrRange} {
		if seen[errno] < 500 || long < 500 {
			t.Errorf("with %d: %d times, and %d times more than 4 rows", errno, seen[errno], long)
		}
	}
}
