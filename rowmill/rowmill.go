// Package rowmill: a small database, asked in the words of SQL: see DOC.md.
package rowmill

import (
	"rowmill/api"
	"rowmill/syntax"
)

// DB is a database.
type DB struct {
	tables []*table
}

// New makes an empty one (P3).
func New() *DB { return &DB{} }

// Exec does a statement (P4 to P11).
func (d *DB) Exec(text string) (api.Result, api.Errno) {
	statement, ok := syntax.Read(text)
	if !ok {
		return api.Result{}, api.ErrSyntax
	}
	count, errno := d.do(statement)
	if errno != api.OK {
		return api.Result{}, errno
	}
	return api.Result{Count: count}, api.OK
}

// do gives how many rows a statement has put in. DELETE, UPDATE and SELECT are read, but not done yet.
func (d *DB) do(statement syntax.Statement) (int, api.Errno) {
	switch s := statement.(type) {
	case *syntax.Create:
		return 0, d.create(s)
	case *syntax.Insert:
		return 1, d.insert(s)
	}
	return 0, api.OK
}

// Load makes a database of a text (P12). It takes no text yet, so that nobody gets a database that is none.
func Load(saved string) (*DB, api.Errno) { return nil, api.ErrBytes }
