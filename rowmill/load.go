package rowmill

import (
	"rowmill/api"
	"rowmill/syntax"
)

// Load makes a database of a text (P12). The lines are done one by one, and the database must tell the very text then: so nothing passes that Save would have written in another way, or in another order.
func Load(saved string) (*DB, api.Errno) {
	d := New()
	for rest := saved; rest != ""; {
		line := firstLine(rest)
		if !d.doLine(line) {
			return nil, api.ErrBytes
		}
		rest = rest[len(line):]
	}
	if d.Save() != saved {
		return nil, api.ErrBytes
	}
	return d, api.OK
}

// firstLine goes up to a newline, with it: the first that does not stand within quotes. Two quotes that stand for one do no harm, since nothing is between them.
func firstLine(text string) string {
	quoted := false
	for i := range len(text) {
		switch {
		case text[i] == '\'':
			quoted = !quoted
		case text[i] == '\n' && !quoted:
			return text[:i+1]
		}
	}
	return text
}

// doLine does only what Save tells, so that a long text ends soon: no table and no row more than there is room for.
func (d *DB) doLine(line string) bool {
	errno := api.ErrBytes
	statement, _ := syntax.Read(line)
	switch s := statement.(type) {
	case *syntax.Create:
		errno = d.create(s)
	case *syntax.Insert:
		_, errno = d.insert(s)
	}
	return errno == api.OK
}
