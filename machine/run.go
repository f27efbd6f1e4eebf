package machine

import (
	"cmp"
	"strings"

	"rowmill/api"
)

// stack: a program takes no more from it than it has put there.
type stack []api.Value

func (s *stack) push(v api.Value) {
	*s = append(*s, v)
}

func (s *stack) pop() api.Value {
	v := s.top()
	*s = (*s)[:len(*s)-1]
	return v
}

func (s *stack) top() api.Value {
	return (*s)[len(*s)-1]
}

// Run reckons the value for a row.
func (p Program) Run(row []api.Value) (api.Value, api.Errno) {
	var s stack
	for at := 0; at < len(p.code); {
		in := p.code[at]
		at++
		switch in.kind {
		case pushLiteral:
			s.push(in.value)
		case pushColumn:
			s.push(row[in.place])
		case jumpIfFalse, jumpIfTrue:
			if s.top() == truth(in.kind == jumpIfTrue) {
				at = in.place
			}
		default:
			v, errno := s.apply(in.kind)
			if errno != api.OK {
				return api.Value{}, errno
			}
			s.push(v)
		}
	}
	return s.pop(), api.OK
}

// Holds tells whether a truth is TRUE for a row: neither FALSE nor NULL.
func (p Program) Holds(row []api.Value) (bool, api.Errno) {
	v, errno := p.Run(row)
	return v == truth(true), errno
}

// apply takes what an instruction works on from the stack.
func (s *stack) apply(k kind) (api.Value, api.Errno) {
	right := s.pop()
	switch k {
	case negate:
		return negated(right)
	case not:
		return opposite(right), api.OK
	case isNull, isNotNull:
		return truth(missing(right) == (k == isNull)), api.OK
	}
	return two(k, s.pop(), right)
}

func two(k kind, left, right api.Value) (api.Value, api.Errno) {
	switch k {
	case and, or:
		return joined(left, right, truth(k == or)), api.OK
	}
	if missing(left) || missing(right) {
		return api.Value{}, api.OK
	}
	switch k {
	case add, subtract, multiply, divide, remainder:
		return reckon(k, left.N, right.N)
	}
	return truth(holds(k, Order(left, right))), api.OK
}

func truth(b bool) api.Value {
	if b {
		return api.Value{Kind: api.Bool, N: 1}
	}
	return api.Value{Kind: api.Bool}
}

func missing(v api.Value) bool {
	return v.Kind == api.Null
}

func opposite(v api.Value) api.Value {
	if missing(v) {
		return v
	}
	return truth(v.N == 0)
}

// joined is AND or OR of two truths. The left one is never the one that tells by itself: that has jumped over this.
func joined(left, right, telling api.Value) api.Value {
	if right == telling || missing(right) {
		return right
	}
	return left
}

// Order is below 0, 0 or above 0, as the left one of two values of one type comes ahead of the right one, is the same, or comes behind it. NULL comes first: its kind is the least.
func Order(left, right api.Value) int {
	if missing(left) || missing(right) {
		return cmp.Compare(left.Kind, right.Kind)
	}
	if left.Kind == api.Text {
		return strings.Compare(left.S, right.S)
	}
	return cmp.Compare(left.N, right.N)
}

func holds(k kind, order int) bool {
	switch k {
	case equal:
		return order == 0
	case unequal:
		return order != 0
	case less:
		return order < 0
	case lessEqual:
		return order <= 0
	case greater:
		return order > 0
	}
	return order >= 0
}
