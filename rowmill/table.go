package rowmill

import (
	"rowmill/api"
	"rowmill/machine"
	"rowmill/syntax"
)

type table struct {
	name    string
	columns []syntax.Column
	rows    [][]api.Value
}

// find gives nil, if there is no such table.
func (d *DB) find(name string) *table {
	for _, t := range d.tables {
		if t.name == name {
			return t
		}
	}
	return nil
}

func (d *DB) create(s *syntax.Create) api.Errno {
	if d.find(s.Table) != nil || nameTwice(s.Columns) {
		return api.ErrName
	}
	if len(d.tables) == api.MaxTables {
		return api.ErrFull
	}
	d.tables = append(d.tables, &table{name: s.Table, columns: s.Columns})
	return api.OK
}

func nameTwice(columns []syntax.Column) bool {
	for i, column := range columns {
		for _, ahead := range columns[:i] {
			if ahead.Name == column.Name {
				return true
			}
		}
	}
	return false
}

func (d *DB) insert(s *syntax.Insert) api.Errno {
	t := d.find(s.Table)
	if t == nil {
		return api.ErrName
	}
	programs, errno := t.compileRow(s.Values)
	if errno != api.OK {
		return errno
	}
	row, errno := reckonAll(programs)
	if errno != api.OK {
		return errno
	}
	if len(t.rows) == api.MaxRows {
		return api.ErrFull
	}
	t.rows = append(t.rows, row)
	return api.OK
}

// compileRow compiles a value for each column, none of which may name one.
func (t *table) compileRow(values []*syntax.Value) ([]machine.Program, api.Errno) {
	if len(values) != len(t.columns) {
		return nil, api.ErrType
	}
	var programs []machine.Program
	for i, v := range values {
		p, errno := machine.CompileAs(v, nil, t.columns[i].Type)
		if errno != api.OK {
			return nil, errno
		}
		programs = append(programs, p)
	}
	return programs, api.OK
}

func reckonAll(programs []machine.Program) ([]api.Value, api.Errno) {
	var row []api.Value
	for _, p := range programs {
		v, errno := p.Run(nil)
		if errno != api.OK {
			return nil, errno
		}
		row = append(row, v)
	}
	return row, api.OK
}
