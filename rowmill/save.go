package rowmill

import (
	"math"
	"strconv"
	"strings"

	"rowmill/api"
	"rowmill/syntax"
)

// Save tells a database as text (P12).
func (d *DB) Save() string {
	var b strings.Builder
	for _, t := range d.tables {
		b.WriteString("CREATE TABLE " + t.name + " " + inBrackets(t.columns, columnText) + "\n")
		for _, row := range t.rows {
			b.WriteString("INSERT INTO " + t.name + " VALUES " + inBrackets(row, valueText) + "\n")
		}
	}
	return b.String()
}

func inBrackets[T any](all []T, text func(T) string) string {
	var texts []string
	for _, one := range all {
		texts = append(texts, text(one))
	}
	return "(" + strings.Join(texts, ", ") + ")"
}

func columnText(c syntax.Column) string {
	return c.Name + " " + typeNames[c.Type]
}

var typeNames = [...]string{api.Int: "INT", api.Text: "TEXT", api.Bool: "BOOL"}

func valueText(v api.Value) string {
	switch v.Kind {
	case api.Int:
		return numberText(v.N)
	case api.Text:
		return "'" + strings.ReplaceAll(v.S, "'", "''") + "'"
	case api.Bool:
		return truthText(v.N == 1)
	}
	return "NULL"
}

// numberText tells the least number as a difference, since its digits alone would be no number of a statement.
func numberText(n int) string {
	if n == math.MinInt {
		return strconv.Itoa(n+1) + " - 1"
	}
	return strconv.Itoa(n)
}

func truthText(b bool) string {
	if b {
		return "TRUE"
	}
	return "FALSE"
}
