package rowmill

import (
	"slices"

	"rowmill/api"
	"rowmill/machine"
	"rowmill/syntax"
)

type table struct {
	name    string
	columns []syntax.Column
	rows    [][]api.Value
}

// find gives nil, if there is no such table.
func (d *DB) find(name string) *table {
	for _, t := range d.tables {
		if t.name == name {
			return t
		}
	}
	return nil
}

// place of a column in the rows is below 0, if there is no such column.
func (t *table) place(column string) int {
	return slices.IndexFunc(t.columns, func(c syntax.Column) bool { return c.Name == column })
}

// scope has the columns that a value may name, if the table is a source called so.
func (t *table) scope(source string) []machine.Column {
	var columns []machine.Column
	for _, c := range t.columns {
		columns = append(columns, machine.Column{Source: source, Name: c.Name, Type: c.Type})
	}
	return columns
}

func (d *DB) create(s *syntax.Create) api.Errno {
	if d.find(s.Table) != nil || nameTwice(s.Columns) {
		return api.ErrName
	}
	if len(d.tables) == api.MaxTables {
		return api.ErrFull
	}
	d.tables = append(d.tables, &table{name: s.Table, columns: s.Columns})
	return api.OK
}

func nameTwice(columns []syntax.Column) bool {
	for i, column := range columns {
		for _, ahead := range columns[:i] {
			if ahead.Name == column.Name {
				return true
			}
		}
	}
	return false
}
