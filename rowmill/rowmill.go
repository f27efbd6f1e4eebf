// Package rowmill: a small database, asked in the words of SQL: see DOC.md.
package rowmill

import (
	"rowmill/api"
	"rowmill/syntax"
)

// DB is a database.
type DB struct {
	tables []*table
}

// New makes an empty one (P3).
func New() *DB { return &DB{} }

// Exec does a statement (P4 to P11).
func (d *DB) Exec(text string) (api.Result, api.Errno) {
	statement, ok := syntax.Read(text)
	if !ok {
		return api.Result{}, api.ErrSyntax
	}
	result, errno := d.do(statement)
	if errno != api.OK {
		return api.Result{}, errno
	}
	return result, api.OK
}

func (d *DB) do(statement syntax.Statement) (result api.Result, errno api.Errno) {
	switch s := statement.(type) {
	case *syntax.Create:
		errno = d.create(s)
	case *syntax.Insert:
		result.Count, errno = d.insert(s)
	case *syntax.Delete:
		result.Count, errno = d.delete(s)
	case *syntax.Update:
		result.Count, errno = d.update(s)
	case *syntax.Select:
		result.Rows, errno = d.choose(s)
	}
	return result, errno
}
