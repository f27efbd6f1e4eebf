package machine

import (
	"rowmill/api"
	"rowmill/syntax"
)

// Column is one that a value may name: that of its place in the rows that the program is run with.
type Column struct {
	Source, Name string
	Type         int
}

// Compile looks at a value's names and types, and gives its program and its type: api.Null, if it is of every type.
func Compile(v *syntax.Value, columns []Column) (Program, int, api.Errno) {
	c := &compiler{columns: columns}
	gives, errno := c.value(v)
	if errno != api.OK {
		return Program{}, api.Null, errno
	}
	return Program{c.code}, gives, api.OK
}

// CompileAs compiles a value that must be of a type.
func CompileAs(v *syntax.Value, columns []Column, want int) (Program, api.Errno) {
	p, gives, errno := Compile(v, columns)
	if errno == api.OK && !alike(gives, want) {
		errno = api.ErrType
	}
	if errno != api.OK {
		return Program{}, errno
	}
	return p, api.OK
}

// alike: NULL is of every type.
func alike(a, b int) bool {
	return a == b || a == api.Null || b == api.Null
}

type compiler struct {
	columns []Column
	code    []instruction
}

func (c *compiler) emit(in instruction) {
	c.code = append(c.code, in)
}

// value compiles what stands in a value ahead of the value itself: so names and types are looked at in that order too.
func (c *compiler) value(v *syntax.Value) (int, api.Errno) {
	switch v.Op {
	case syntax.Literal:
		c.emit(instruction{kind: pushLiteral, value: v.Literal})
		return v.Literal.Kind, api.OK
	case syntax.Name:
		return c.name(v)
	case syntax.And:
		return c.logic(v, jumpIfFalse)
	case syntax.Or:
		return c.logic(v, jumpIfTrue)
	case syntax.Negate, syntax.Not, syntax.IsNull, syntax.IsNotNull:
		return c.one(v)
	}
	return c.two(v)
}

func (c *compiler) name(v *syntax.Value) (int, api.Errno) {
	found := -1
	for i, column := range c.columns {
		if column.Name != v.Name || v.Source != "" && column.Source != v.Source {
			continue
		}
		if found >= 0 {
			return api.Null, api.ErrName
		}
		found = i
	}
	if found < 0 {
		return api.Null, api.ErrName
	}
	c.emit(instruction{kind: pushColumn, place: found})
	return c.columns[found].Type, api.OK
}

// logic jumps over the right value, if the left one has told already.
func (c *compiler) logic(v *syntax.Value, jump kind) (int, api.Errno) {
	left, errno := c.value(v.Left)
	if errno != api.OK {
		return api.Null, errno
	}
	from := len(c.code)
	c.emit(instruction{kind: jump})
	right, errno := c.value(v.Right)
	if errno != api.OK {
		return api.Null, errno
	}
	gives, errno := c.finish(v.Op, left, right)
	c.code[from].place = len(c.code)
	return gives, errno
}

func (c *compiler) one(v *syntax.Value) (int, api.Errno) {
	left, errno := c.value(v.Left)
	if errno != api.OK {
		return api.Null, errno
	}
	return c.finish(v.Op, left, left)
}

func (c *compiler) two(v *syntax.Value) (int, api.Errno) {
	left, errno := c.value(v.Left)
	if errno != api.OK {
		return api.Null, errno
	}
	right, errno := c.value(v.Right)
	if errno != api.OK {
		return api.Null, errno
	}
	return c.finish(v.Op, left, right)
}

// finish looks at the types of what stands in an op whose parts are compiled, and compiles the op itself.
func (c *compiler) finish(op syntax.Op, left, right int) (int, api.Errno) {
	rule := rules[op]
	if !alike(left, rule.takes) || !alike(right, rule.takes) || !alike(left, right) {
		return api.Null, api.ErrType
	}
	c.emit(instruction{kind: rule.kind})
	return rule.gives, api.OK
}

// rules: an op's instruction, the type of what stands in it (api.Null: of any, but of one), and of what it gives.
var rules = [...]struct {
	kind         kind
	takes, gives int
}{
	syntax.Negate:       {negate, api.Int, api.Int},
	syntax.Not:          {not, api.Bool, api.Bool},
	syntax.IsNull:       {isNull, api.Null, api.Bool},
	syntax.IsNotNull:    {isNotNull, api.Null, api.Bool},
	syntax.Add:          {add, api.Int, api.Int},
	syntax.Subtract:     {subtract, api.Int, api.Int},
	syntax.Multiply:     {multiply, api.Int, api.Int},
	syntax.Divide:       {divide, api.Int, api.Int},
	syntax.Remainder:    {remainder, api.Int, api.Int},
	syntax.Equal:        {equal, api.Null, api.Bool},
	syntax.Unequal:      {unequal, api.Null, api.Bool},
	syntax.Less:         {less, api.Null, api.Bool},
	syntax.LessEqual:    {lessEqual, api.Null, api.Bool},
	syntax.Greater:      {greater, api.Null, api.Bool},
	syntax.GreaterEqual: {greaterEqual, api.Null, api.Bool},
	syntax.And:          {and, api.Bool, api.Bool},
	syntax.Or:           {or, api.Bool, api.Bool},
}
