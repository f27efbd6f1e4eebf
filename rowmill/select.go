package rowmill

import (
	"slices"
	"strconv"

	"rowmill/api"
	"rowmill/machine"
	"rowmill/syntax"
)

// query is a SELECT whose names and types have been looked at.
type query struct {
	sources []source
	values  []machine.Program
	where   machine.Program
	orders  []machine.Program
}

// choose gives the rows that a SELECT tells, as new memory.
func (d *DB) choose(s *syntax.Select) ([][]api.Value, api.Errno) {
	q, errno := d.compileQuery(s)
	if errno != api.OK {
		return nil, errno
	}
	rows, errno := joinAll(q.sources)
	if errno != api.OK {
		return nil, errno
	}
	rows, _, errno = sift(rows, q.where)
	if errno != api.OK {
		return nil, errno
	}
	rows, errno = inOrder(rows, q.orders, s.Orders)
	if errno != api.OK {
		return nil, errno
	}
	rows, errno = reckonRows(rows, q.values)
	if errno != api.OK {
		return nil, errno
	}
	if s.Distinct {
		rows = withoutTwice(rows)
	}
	return window(rows, s.Offset, s.Limit), api.OK
}

func (d *DB) compileQuery(s *syntax.Select) (query, api.Errno) {
	sources, columns, errno := d.compileSources(s.Sources)
	if errno != api.OK {
		return query{}, errno
	}
	values, errno := compileAll(valuesOf(s, columns), columns)
	if errno != api.OK {
		return query{}, errno
	}
	where, errno := condition(s.Where, columns)
	if errno != api.OK {
		return query{}, errno
	}
	orders, errno := compileAll(orderValues(s.Orders), columns)
	if errno != api.OK {
		return query{}, errno
	}
	return query{sources: sources, values: values, where: where, orders: orders}, api.OK
}

// valuesOf takes the name of each column for a *.
func valuesOf(s *syntax.Select, columns []machine.Column) []*syntax.Value {
	if s.Values != nil {
		return s.Values
	}
	var values []*syntax.Value
	for _, c := range columns {
		values = append(values, &syntax.Value{Op: syntax.Name, Source: c.Source, Name: c.Name})
	}
	return values
}

func orderValues(orders []syntax.Order) []*syntax.Value {
	var values []*syntax.Value
	for _, o := range orders {
		values = append(values, o.Value)
	}
	return values
}

// ranked is a row with what ORDER BY has reckoned for it.
type ranked struct {
	ranks, row []api.Value
}

func inOrder(rows [][]api.Value, programs []machine.Program, orders []syntax.Order) ([][]api.Value, api.Errno) {
	var all []ranked
	for _, row := range rows {
		ranks, errno := reckonAll(programs, row)
		if errno != api.OK {
			return nil, errno
		}
		all = append(all, ranked{ranks, row})
	}
	slices.SortStableFunc(all, func(a, b ranked) int { return compareRanks(a.ranks, b.ranks, orders) })
	var sorted [][]api.Value
	for _, r := range all {
		sorted = append(sorted, r.row)
	}
	return sorted, api.OK
}

// compareRanks goes on with the next rank only where two rows are the same in those ahead of it.
func compareRanks(a, b []api.Value, orders []syntax.Order) int {
	for i, o := range orders {
		c := machine.Order(a[i], b[i])
		switch {
		case c != 0 && o.Desc:
			return -c
		case c != 0:
			return c
		}
	}
	return 0
}

func reckonRows(rows [][]api.Value, programs []machine.Program) ([][]api.Value, api.Errno) {
	var out [][]api.Value
	for _, row := range rows {
		values, errno := reckonAll(programs, row)
		if errno != api.OK {
			return nil, errno
		}
		out = append(out, values)
	}
	return out, api.OK
}

// withoutTwice leaves out each row that is the same as one ahead of it.
func withoutTwice(rows [][]api.Value) [][]api.Value {
	met := map[string]int{}
	var once [][]api.Value
nextRow:
	for _, row := range rows {
		key := rowKey(row)
		met[key]++
		if met[key] > 1 {
			continue nextRow
		}
		once = append(once, row)
	}
	return once
}

// rowKey is one for rows that are the same, and for no others: a text's length stands ahead of it, so that its end is not mistaken.
func rowKey(row []api.Value) string {
	var key []byte
	for _, v := range row {
		for _, n := range [...]int{v.Kind, v.N, len(v.S)} {
			key = strconv.AppendInt(key, int64(n), 10)
			key = append(key, ' ')
		}
		key = append(key, v.S...)
	}
	return string(key)
}

// window leaves out the first rows, and those behind the last that may be told.
func window(rows [][]api.Value, offset, limit int) [][]api.Value {
	rows = rows[min(offset, len(rows)):]
	return slices.Clone(rows[:min(limit, len(rows))])
}
