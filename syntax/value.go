package syntax

import (
	"rowmill/api"
	"rowmill/lexer"
)

func (r *reader) value() *Value {
	left := r.both()
	for r.take(lexer.KeyOr) {
		left = &Value{Op: Or, Left: left, Right: r.both()}
	}
	return left
}

func (r *reader) both() *Value {
	left := r.no()
	for r.take(lexer.KeyAnd) {
		left = &Value{Op: And, Left: left, Right: r.no()}
	}
	return left
}

func (r *reader) no() *Value {
	if r.take(lexer.KeyNot) {
		return &Value{Op: Not, Left: r.deeper(r.no)}
	}
	return r.comparison()
}

// deeper reads what stands in a NOT, behind a sign or in brackets. The bound on how deep that may be bounds the stack of calls too.
func (r *reader) deeper(inner func() *Value) *Value {
	if r.depth == api.MaxDepth {
		r.fail()
		return nil
	}
	r.depth++
	v := inner()
	r.depth--
	return v
}

func (r *reader) comparison() *Value {
	left := r.sum()
	if r.take(lexer.KeyIs) {
		return r.nullness(left)
	}
	op, ok := comparisonOp(r.peek())
	if !ok {
		return left
	}
	r.at++
	return &Value{Op: op, Left: left, Right: r.sum()}
}

func (r *reader) nullness(left *Value) *Value {
	op := IsNull
	if r.take(lexer.KeyNot) {
		op = IsNotNull
	}
	r.need(lexer.KeyNull)
	return &Value{Op: op, Left: left}
}

func comparisonOp(kind lexer.Kind) (Op, bool) {
	switch kind {
	case lexer.Equal:
		return Equal, true
	case lexer.Unequal:
		return Unequal, true
	case lexer.Less:
		return Less, true
	case lexer.LessEqual:
		return LessEqual, true
	case lexer.Greater:
		return Greater, true
	case lexer.GreaterEqual:
		return GreaterEqual, true
	}
	return 0, false
}

func (r *reader) sum() *Value {
	return r.chain(r.product, sumOp)
}

func sumOp(kind lexer.Kind) (Op, bool) {
	switch kind {
	case lexer.Plus:
		return Add, true
	case lexer.Minus:
		return Subtract, true
	}
	return 0, false
}

func (r *reader) product() *Value {
	return r.chain(r.signed, productOp)
}

func productOp(kind lexer.Kind) (Op, bool) {
	switch kind {
	case lexer.Star:
		return Multiply, true
	case lexer.Slash:
		return Divide, true
	case lexer.Percent:
		return Remainder, true
	}
	return 0, false
}

// chain reads parts with signs between them; what stands further to the left belongs together first.
func (r *reader) chain(part func() *Value, opOf func(lexer.Kind) (Op, bool)) *Value {
	left := part()
	for op, ok := opOf(r.peek()); ok; op, ok = opOf(r.peek()) {
		r.at++
		left = &Value{Op: op, Left: left, Right: part()}
	}
	return left
}

func (r *reader) signed() *Value {
	if r.take(lexer.Minus) {
		return &Value{Op: Negate, Left: r.deeper(r.signed)}
	}
	return r.single()
}

func (r *reader) single() *Value {
	switch r.peek() {
	case lexer.Number:
		return literal(api.Value{Kind: api.Int, N: r.number()})
	case lexer.Text:
		return literal(api.Value{Kind: api.Text, S: r.token(lexer.Text).S})
	case lexer.Name:
		return r.columnName()
	}
	switch {
	case r.take(lexer.KeyTrue):
		return literal(api.Value{Kind: api.Bool, N: 1})
	case r.take(lexer.KeyFalse):
		return literal(api.Value{Kind: api.Bool})
	case r.take(lexer.KeyNull):
		return literal(api.Value{})
	}
	return r.inBrackets()
}

func literal(v api.Value) *Value {
	return &Value{Op: Literal, Literal: v}
}

func (r *reader) columnName() *Value {
	name := r.name()
	if r.take(lexer.Dot) {
		return &Value{Op: Name, Source: name, Name: r.name()}
	}
	return &Value{Op: Name, Name: name}
}

func (r *reader) inBrackets() *Value {
	if !r.take(lexer.Open) {
		r.fail()
		return nil
	}
	v := r.deeper(r.value)
	r.need(lexer.Close)
	return v
}
