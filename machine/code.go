// Package machine compiles the values of a statement to instructions of a small machine with a stack, and runs them.
package machine

import "rowmill/api"

// kind tells instructions apart.
type kind int

const (
	pushLiteral kind = iota
	pushColumn
	jumpIfFalse // leaves what it looks at on the stack: if it jumps, that is the answer
	jumpIfTrue
	negate
	not
	isNull
	isNotNull
	add
	subtract
	multiply
	divide
	remainder
	equal
	unequal
	less
	lessEqual
	greater
	greaterEqual
	and
	or
)

// instruction has the value that it pushes, or the place that it pushes from or jumps to.
type instruction struct {
	kind  kind
	value api.Value
	place int
}

// Program reckons one value.
type Program struct {
	code []instruction
}
