package rowmill

import (
	"slices"

	"rowmill/api"
	"rowmill/machine"
	"rowmill/syntax"
)

// source is one of a SELECT whose names and types have been looked at. Its ON is for rows of all sources ahead of it with one of its own behind them.
type source struct {
	table *table
	left  bool
	on    machine.Program
}

// tablesOf looks at all sources, which is done ahead of what stands behind the first ON.
func (d *DB) tablesOf(sources []syntax.Source) ([]*table, api.Errno) {
	var tables []*table
	for i, s := range sources {
		t := d.find(s.Table)
		if t == nil || calledSo(sources[:i], s.Name) {
			return nil, api.ErrName
		}
		tables = append(tables, t)
	}
	return tables, api.OK
}

func calledSo(sources []syntax.Source, name string) bool {
	return slices.ContainsFunc(sources, func(s syntax.Source) bool { return s.Name == name })
}

// compileSources gives the columns of all of them too, in the order in which a joined row has them.
func (d *DB) compileSources(all []syntax.Source) ([]source, []machine.Column, api.Errno) {
	tables, errno := d.tablesOf(all)
	if errno != api.OK {
		return nil, nil, errno
	}
	var sources []source
	var columns []machine.Column
	for i, s := range all {
		columns = append(columns, tables[i].scope(s.Name)...)
		on, errno := condition(s.On, columns)
		if errno != api.OK {
			return nil, nil, errno
		}
		sources = append(sources, source{tables[i], s.Left, on})
	}
	return sources, columns, api.OK
}

// joinAll begins with one row without values, so that the first source is joined as the others are: its ON is left out, and so TRUE.
func joinAll(sources []source) ([][]api.Value, api.Errno) {
	rows := [][]api.Value{{}}
	for _, s := range sources {
		joined, errno := s.join(rows)
		if errno != api.OK {
			return nil, errno
		}
		rows = joined
	}
	return rows, api.OK
}

// join gives rows of new memory: those so far, each with all of the source's for which ON is TRUE.
func (s source) join(rows [][]api.Value) ([][]api.Value, api.Errno) {
	var joined [][]api.Value
	var failed api.Errno
rowsSoFar:
	for _, row := range rows {
		before := len(joined)
	ownRows:
		for _, own := range s.table.rows {
			both := slices.Concat(row, own)
			holds, errno := s.on.Holds(both)
			switch {
			case errno != api.OK:
				failed = errno
				break rowsSoFar
			case !holds:
				continue ownRows
			}
			joined = append(joined, both)
		}
		if len(joined) > before || !s.left {
			continue rowsSoFar
		}
		joined = append(joined, slices.Concat(row, s.nulls()))
	}
	if failed != api.OK {
		return nil, failed
	}
	return joined, api.OK
}

// nulls stand in place of the source's values: a value of no kind is NULL.
func (s source) nulls() []api.Value {
	return make([]api.Value, len(s.table.columns))
}
