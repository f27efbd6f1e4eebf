package lexer

// Kind tells tokens apart.
type Kind int

// The signs of two bytes stand ahead of those of one: signs are tried in this order, and the longer one is meant.
const (
	End Kind = iota // no token: what stands behind the last one
	Name
	Number
	Text
	Unequal
	LessEqual
	GreaterEqual
	Open
	Close
	Comma
	Dot
	Semicolon
	Equal
	Less
	Greater
	Plus
	Minus
	Star
	Slash
	Percent
	KeyCreate
	KeyTable
	KeyInsert
	KeyInto
	KeyValues
	KeyDelete
	KeyFrom
	KeyWhere
	KeyUpdate
	KeySet
	KeySelect
	KeyDistinct
	KeyAs
	KeyLeft
	KeyJoin
	KeyOn
	KeyOrder
	KeyBy
	KeyDesc
	KeyLimit
	KeyOffset
	KeyAnd
	KeyOr
	KeyNot
	KeyIs
	KeyNull
	KeyTrue
	KeyFalse
	KeyInt
	KeyText
	KeyBool
)

const (
	firstSign    = Unequal
	lastSign     = Percent
	firstKeyword = KeyCreate
	lastKeyword  = KeyBool
)

var spellings = [...]string{
	Unequal:      "<>",
	LessEqual:    "<=",
	GreaterEqual: ">=",
	Open:         "(",
	Close:        ")",
	Comma:        ",",
	Dot:          ".",
	Semicolon:    ";",
	Equal:        "=",
	Less:         "<",
	Greater:      ">",
	Plus:         "+",
	Minus:        "-",
	Star:         "*",
	Slash:        "/",
	Percent:      "%",
	KeyCreate:    "CREATE",
	KeyTable:     "TABLE",
	KeyInsert:    "INSERT",
	KeyInto:      "INTO",
	KeyValues:    "VALUES",
	KeyDelete:    "DELETE",
	KeyFrom:      "FROM",
	KeyWhere:     "WHERE",
	KeyUpdate:    "UPDATE",
	KeySet:       "SET",
	KeySelect:    "SELECT",
	KeyDistinct:  "DISTINCT",
	KeyAs:        "AS",
	KeyLeft:      "LEFT",
	KeyJoin:      "JOIN",
	KeyOn:        "ON",
	KeyOrder:     "ORDER",
	KeyBy:        "BY",
	KeyDesc:      "DESC",
	KeyLimit:     "LIMIT",
	KeyOffset:    "OFFSET",
	KeyAnd:       "AND",
	KeyOr:        "OR",
	KeyNot:       "NOT",
	KeyIs:        "IS",
	KeyNull:      "NULL",
	KeyTrue:      "TRUE",
	KeyFalse:     "FALSE",
	KeyInt:       "INT",
	KeyText:      "TEXT",
	KeyBool:      "BOOL",
}
