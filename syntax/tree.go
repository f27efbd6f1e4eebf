// Package syntax reads the text of a statement as a tree.
package syntax

import "rowmill/api"

// Statement is a *Create, *Insert, *Delete, *Update or *Select.
type Statement interface{ isStatement() }

type Create struct {
	Table   string
	Columns []Column
}

// Column has a type of package api: Int, Text or Bool.
type Column struct {
	Name string
	Type int
}

type Insert struct {
	Table  string
	Values []*Value
}

// Delete has no Where (nil), if all rows are meant; so has Update.
type Delete struct {
	Table string
	Where *Value
}

type Update struct {
	Table    string
	Settings []Setting
	Where    *Value
}

type Setting struct {
	Column string
	Value  *Value
}

// Select has no Values, if all columns are meant. Its Limit is the greatest number, if it has none.
type Select struct {
	Distinct bool
	Values   []*Value
	Sources  []Source
	Where    *Value
	Orders   []Order
	Limit    int
	Offset   int
}

// Source is called Name: its table's, if it was given no other. The first has no On (nil).
type Source struct {
	Table, Name string
	Left        bool
	On          *Value
}

type Order struct {
	Value *Value
	Desc  bool
}

func (*Create) isStatement() {}
func (*Insert) isStatement() {}
func (*Delete) isStatement() {}
func (*Update) isStatement() {}
func (*Select) isStatement() {}

// Op tells what a value is made by.
type Op int

const (
	Literal Op = iota
	Name
	Negate
	Not
	IsNull
	IsNotNull
	Add
	Subtract
	Multiply
	Divide
	Remainder
	Equal
	Unequal
	Less
	LessEqual
	Greater
	GreaterEqual
	And
	Or
)

// Value is a literal; the name of a column, with or without its source; or an Op of one value (Left) or two.
type Value struct {
	Op           Op
	Literal      api.Value
	Source, Name string
	Left, Right  *Value
}
