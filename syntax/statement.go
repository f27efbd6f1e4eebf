package syntax

import (
	"math"

	"rowmill/api"
	"rowmill/lexer"
)

// Read gives the statement that a text is; false, if it is none.
func Read(text string) (Statement, bool) {
	if len(text) > api.MaxText {
		return nil, false
	}
	tokens, ok := lexer.Cut(text)
	if !ok {
		return nil, false
	}
	r := &reader{tokens: tokens}
	statement := r.statement()
	r.take(lexer.Semicolon)
	if r.failed || r.peek() != lexer.End {
		return nil, false
	}
	return statement, true
}

func (r *reader) statement() Statement {
	switch {
	case r.take(lexer.KeyCreate):
		return r.create()
	case r.take(lexer.KeyInsert):
		return r.insert()
	case r.take(lexer.KeyDelete):
		return r.delete()
	case r.take(lexer.KeyUpdate):
		return r.update()
	case r.take(lexer.KeySelect):
		return r.selection()
	}
	r.fail()
	return nil
}

func (r *reader) create() *Create {
	r.need(lexer.KeyTable)
	s := &Create{Table: r.name()}
	r.need(lexer.Open)
	s.Columns = list(r, r.column)
	r.need(lexer.Close)
	if len(s.Columns) > api.MaxColumns {
		r.fail()
	}
	return s
}

func (r *reader) column() Column {
	return Column{Name: r.name(), Type: r.columnType()}
}

func (r *reader) columnType() int {
	switch {
	case r.take(lexer.KeyInt):
		return api.Int
	case r.take(lexer.KeyText):
		return api.Text
	case r.take(lexer.KeyBool):
		return api.Bool
	}
	r.fail()
	return api.Null
}

func (r *reader) insert() *Insert {
	r.need(lexer.KeyInto)
	s := &Insert{Table: r.name()}
	r.need(lexer.KeyValues, lexer.Open)
	s.Values = list(r, r.value)
	r.need(lexer.Close)
	return s
}

func (r *reader) delete() *Delete {
	r.need(lexer.KeyFrom)
	return &Delete{Table: r.name(), Where: r.where()}
}

func (r *reader) update() *Update {
	s := &Update{Table: r.name()}
	r.need(lexer.KeySet)
	s.Settings = list(r, r.setting)
	s.Where = r.where()
	return s
}

func (r *reader) setting() Setting {
	column := r.name()
	r.need(lexer.Equal)
	return Setting{Column: column, Value: r.value()}
}

func (r *reader) where() *Value {
	if !r.take(lexer.KeyWhere) {
		return nil
	}
	return r.value()
}

func (r *reader) selection() *Select {
	s := &Select{Distinct: r.take(lexer.KeyDistinct)}
	if !r.take(lexer.Star) {
		s.Values = list(r, r.value)
	}
	r.need(lexer.KeyFrom)
	s.Sources = r.sources()
	s.Where = r.where()
	s.Orders = r.orders()
	s.Limit, s.Offset = r.limit()
	return s
}

func (r *reader) sources() []Source {
	all := []Source{r.source()}
	for r.peek() == lexer.KeyLeft || r.peek() == lexer.KeyJoin {
		all = append(all, r.joined())
	}
	if len(all) > api.MaxJoined {
		r.fail()
	}
	return all
}

func (r *reader) source() Source {
	table := r.name()
	if r.take(lexer.KeyAs) {
		return Source{Table: table, Name: r.name()}
	}
	return Source{Table: table, Name: table}
}

func (r *reader) joined() Source {
	left := r.take(lexer.KeyLeft)
	r.need(lexer.KeyJoin)
	s := r.source()
	r.need(lexer.KeyOn)
	s.Left, s.On = left, r.value()
	return s
}

func (r *reader) orders() []Order {
	if !r.take(lexer.KeyOrder) {
		return nil
	}
	r.need(lexer.KeyBy)
	return list(r, r.order)
}

func (r *reader) order() Order {
	return Order{Value: r.value(), Desc: r.take(lexer.KeyDesc)}
}

func (r *reader) limit() (limit, offset int) {
	if !r.take(lexer.KeyLimit) {
		return math.MaxInt, 0
	}
	limit = r.number()
	if r.take(lexer.KeyOffset) {
		offset = r.number()
	}
	return limit, offset
}
