package machine

import (
	"math/big"
	"math/rand/v2"
	"testing"

	"rowmill/api"
)

// sample is a value whose worth is known as it is made: by the words of the document, and numbers without bounds.
type sample struct {
	text  string
	level int // of the grammar: from valueLevel, the loosest, to singleLevel
	worth api.Value
	errno api.Errno
}

const (
	valueLevel = iota
	bothLevel
	noLevel
	comparisonLevel
	sumLevel
	productLevel
	signedLevel
	singleLevel
)

// as puts brackets around a sample, where the grammar wants them.
func (s sample) as(level int) string {
	if s.level < level {
		return "(" + s.text + ")"
	}
	return s.text
}

type sampler struct{ *rand.Rand }

func (r sampler) pick(all ...string) string { return all[r.IntN(len(all))] }

func (r sampler) literal(kind int) sample {
	if r.IntN(6) == 0 {
		return sample{text: "NULL", level: singleLevel}
	}
	s := sample{level: singleLevel}
	switch kind {
	case api.Int:
		s.text = r.pick("0", "1", "2", "3", "7", "10", "3037000500", "4611686018427387904", "9223372036854775806", "9223372036854775807")
		n, _ := new(big.Int).SetString(s.text, 10)
		s.worth = whole(int(n.Int64()))
	case api.Text:
		s.worth = word(r.pick("", "a", "aa", "b", "B", "\xff"))
		s.text = "'" + s.worth.S + "'"
	case api.Bool:
		s.text = r.pick("TRUE", "FALSE")
		s.worth = truth(s.text == "TRUE")
	}
	return s
}

func (r sampler) value(kind, depth int) sample {
	if depth == 0 || kind == api.Text || r.IntN(5) == 0 {
		return r.literal(kind)
	}
	if kind == api.Int {
		return r.number(depth - 1)
	}
	return r.truth(depth - 1)
}

func (r sampler) number(depth int) sample {
	left, right := r.value(api.Int, depth), r.value(api.Int, depth)
	switch op := r.pick("+", "-", "*", "/", "%", "neg"); op {
	case "neg":
		return sample{"-" + left.as(signedLevel), signedLevel, worthOf("-", sample{worth: whole(0)}, left), errnoOf("-", sample{worth: whole(0)}, left)}
	case "+", "-":
		return sample{left.as(sumLevel) + op + right.as(productLevel), sumLevel, worthOf(op, left, right), errnoOf(op, left, right)}
	default:
		return sample{left.as(productLevel) + op + right.as(signedLevel), productLevel, worthOf(op, left, right), errnoOf(op, left, right)}
	}
}

// wide reckons without bounds; nil: divided by nothing.
func wide(op string, a, b int) *big.Int {
	x, y := big.NewInt(int64(a)), big.NewInt(int64(b))
	switch op {
	case "+":
		return x.Add(x, y)
	case "-":
		return x.Sub(x, y)
	case "*":
		return x.Mul(x, y)
	}
	if b == 0 {
		return nil
	}
	if op == "/" {
		return x.Quo(x, y)
	}
	return x.Rem(x, y)
}

func firstErrno(left, right sample) api.Errno {
	if left.errno != api.OK {
		return left.errno
	}
	return right.errno
}

func anyNull(left, right sample) bool {
	return left.worth.Kind == api.Null || right.worth.Kind == api.Null
}

func errnoOf(op string, left, right sample) api.Errno {
	if e := firstErrno(left, right); e != api.OK || anyNull(left, right) {
		return e
	}
	n := wide(op, left.worth.N, right.worth.N)
	switch {
	case n == nil:
		return api.ErrZero
	case !n.IsInt64():
		return api.ErrRange
	}
	return api.OK
}

func worthOf(op string, left, right sample) api.Value {
	if errnoOf(op, left, right) != api.OK || anyNull(left, right) {
		return api.Value{}
	}
	return whole(int(wide(op, left.worth.N, right.worth.N).Int64()))
}

func (r sampler) truth(depth int) sample {
	switch r.IntN(5) {
	case 0:
		return r.comparison(depth)
	case 1:
		x := r.value(api.Bool, depth)
		s := sample{"NOT " + x.as(noLevel), noLevel, x.worth, x.errno}
		if x.errno == api.OK && x.worth.Kind == api.Bool {
			s.worth.N = 1 - x.worth.N
		}
		return s
	case 2:
		return r.nullness(depth)
	case 3:
		left, right := r.value(api.Bool, depth), r.value(api.Bool, depth)
		return logic(left, right, sample{text: left.as(bothLevel) + " AND " + right.as(noLevel), level: bothLevel}, 0)
	default:
		left, right := r.value(api.Bool, depth), r.value(api.Bool, depth)
		return logic(left, right, sample{text: left.as(valueLevel) + " OR " + right.as(bothLevel), level: valueLevel}, 1)
	}
}

// logic: the truth that tells by itself is 0 for AND, 1 for OR.
func logic(left, right, s sample, telling int) sample {
	told := api.Value{Kind: api.Bool, N: telling}
	switch {
	case left.errno != api.OK:
		s.errno = left.errno
	case left.worth == told:
		s.worth = told
	case right.errno != api.OK:
		s.errno = right.errno
	case right.worth == told:
		s.worth = told
	case !anyNull(left, right):
		s.worth = api.Value{Kind: api.Bool, N: 1 - telling}
	}
	return s
}

func (r sampler) nullness(depth int) sample {
	x := r.value(1+r.IntN(3), depth)
	s := sample{x.as(sumLevel) + " IS NULL", comparisonLevel, truth(x.worth.Kind == api.Null), x.errno}
	if r.IntN(2) == 0 {
		s.text = x.as(sumLevel) + " IS NOT NULL"
		s.worth = truth(x.worth.Kind != api.Null)
	}
	if s.errno != api.OK {
		s.worth = api.Value{}
	}
	return s
}

func (r sampler) comparison(depth int) sample {
	kind := 1 + r.IntN(3)
	left, right := r.value(kind, depth), r.value(kind, depth)
	op := r.pick("=", "<>", "<", "<=", ">", ">=")
	s := sample{text: left.as(sumLevel) + op + right.as(sumLevel), level: comparisonLevel, errno: firstErrno(left, right)}
	if s.errno == api.OK && !anyNull(left, right) {
		below := left.worth.N < right.worth.N || left.worth.S < right.worth.S
		same := left.worth == right.worth
		s.worth = truth(map[string]bool{"=": same, "<>": !same, "<": below, "<=": below || same, ">": !below && !same, ">=": !below}[op])
	}
	return s
}

func TestSamples(t *testing.T) {
	r := sampler{rand.New(rand.NewPCG(1, 2))}
	seen := map[api.Errno]int{}
	for range 60000 {
		kind := api.Int + 2*r.IntN(2)
		s := r.value(kind, 1+r.IntN(4))
		if len(s.text) > 500 {
			continue
		}
		p, errno := CompileAs(read(t, s.text), nil, kind)
		if errno != api.OK {
			t.Fatalf("%q of type %d: %d", s.text, kind, errno)
		}
		if got, errno := p.Run(nil); errno != s.errno || got != s.worth {
			t.Fatalf("%q: %v, %d, want %v, %d", s.text, got, errno, s.worth, s.errno)
		}
		seen[s.errno]++
	}
	if seen[api.OK] < 1000 || seen[api.ErrRange] < 1000 || seen[api.ErrZero] < 1000 {
		t.Errorf("too few samples of a kind: %v", seen)
	}
}

// TestNumbers: all pairs of numbers at the edges.
func TestNumbers(t *testing.T) {
	var edges []int
	for _, n := range []int{0, 1 << 31, 3037000499, 3037000500, 1 << 32, 1 << 61, 1 << 62, -1 << 63} {
		for d := -3; d <= 3; d++ {
			edges = append(edges, n+d, -n+d)
		}
	}
	for op, k := range map[string]kind{"+": add, "-": subtract, "*": multiply, "/": divide, "%": remainder} {
		for _, a := range edges {
			for _, b := range edges {
				left, right := sample{worth: whole(a)}, sample{worth: whole(b)}
				got, errno := reckon(k, a, b)
				if errno != errnoOf(op, left, right) || got != worthOf(op, left, right) {
					t.Fatalf("%d %s %d: %v, %d", a, op, b, got, errno)
				}
			}
		}
	}
}
