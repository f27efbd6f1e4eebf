package rowmill

import (
	"slices"

	"rowmill/api"
	"rowmill/machine"
	"rowmill/syntax"
)

// insert, delete and update give how many rows they have put in, taken out or changed. They change the table last, when there can be no error any more.
func (d *DB) insert(s *syntax.Insert) (int, api.Errno) {
	t := d.find(s.Table)
	if t == nil {
		return 0, api.ErrName
	}
	programs, errno := t.compileRow(s.Values)
	if errno != api.OK {
		return 0, errno
	}
	row, errno := reckonAll(programs, nil)
	if errno != api.OK {
		return 0, errno
	}
	if len(t.rows) == api.MaxRows {
		return 0, api.ErrFull
	}
	t.rows = append(t.rows, row)
	return 1, api.OK
}

// compileRow compiles a value for each column, none of which may name one.
func (t *table) compileRow(values []*syntax.Value) ([]machine.Program, api.Errno) {
	if len(values) != len(t.columns) {
		return nil, api.ErrType
	}
	var programs []machine.Program
	for i, v := range values {
		p, errno := machine.CompileAs(v, nil, t.columns[i].Type)
		if errno != api.OK {
			return nil, errno
		}
		programs = append(programs, p)
	}
	return programs, api.OK
}

func (d *DB) delete(s *syntax.Delete) (int, api.Errno) {
	t := d.find(s.Table)
	if t == nil {
		return 0, api.ErrName
	}
	where, errno := condition(s.Where, t.scope(t.name))
	if errno != api.OK {
		return 0, errno
	}
	gone, left, errno := sift(t.rows, where)
	if errno != api.OK {
		return 0, errno
	}
	t.rows = left
	return len(gone), api.OK
}

func (d *DB) update(s *syntax.Update) (int, api.Errno) {
	t := d.find(s.Table)
	if t == nil {
		return 0, api.ErrName
	}
	settings, errno := t.compileSettings(s.Settings)
	if errno != api.OK {
		return 0, errno
	}
	where, errno := condition(s.Where, t.scope(t.name))
	if errno != api.OK {
		return 0, errno
	}
	rows, count, errno := changed(t.rows, settings, where)
	if errno != api.OK {
		return 0, errno
	}
	t.rows = rows
	return count, api.OK
}

// setting reckons what the column at a place is to have.
type setting struct {
	place int
	value machine.Program
}

func (t *table) compileSettings(parts []syntax.Setting) ([]setting, api.Errno) {
	columns := t.scope(t.name)
	var settings []setting
	for _, part := range parts {
		place := t.place(part.Column)
		if place < 0 || slices.ContainsFunc(settings, func(s setting) bool { return s.place == place }) {
			return nil, api.ErrName
		}
		value, errno := machine.CompileAs(part.Value, columns, t.columns[place].Type)
		if errno != api.OK {
			return nil, errno
		}
		settings = append(settings, setting{place, value})
	}
	return settings, api.OK
}

// changed gives the rows as they are behind an UPDATE, and how many of them it has changed; the rows that it was given stay as they are.
func changed(rows [][]api.Value, settings []setting, where machine.Program) ([][]api.Value, int, api.Errno) {
	out := slices.Clone(rows)
	count := 0
nextRow:
	for i, row := range rows {
		holds, errno := where.Holds(row)
		switch {
		case errno != api.OK:
			return nil, 0, errno
		case !holds:
			continue nextRow
		}
		out[i] = slices.Clone(row)
		for _, s := range settings {
			v, errno := s.value.Run(row)
			if errno != api.OK {
				return nil, 0, errno
			}
			out[i][s.place] = v
		}
		count++
	}
	return out, count, api.OK
}
