package syntax

import (
	"math"
	"strconv"

	"chalkline/api"
	"chalkline/formula"
	"chalkline/lex"
	"chalkline/name"
)

// Form parses a formula. If it fails, at is the offset of the error.
func Form(b []byte) (f api.Form, at int, e api.Errno) {
	f, at, e = parse(b, (*parser).formula)
	if e == api.OK {
		e = formula.Check(f)
	}
	if e != api.OK {
		return api.Form{}, at, e
	}
	return f, 0, api.OK
}

// Parse parses rules. If it fails, at is the offset of the error.
func Parse(b []byte) (l []api.Rule, at int, e api.Errno) {
	l, at, e = parse(b, (*parser).rules)
	if e == api.OK {
		e = Check(l)
	}
	if e != api.OK {
		return nil, at, e
	}
	return l, 0, api.OK
}

// fault is the offset of a token that is not allowed where it stands.
type fault int

// parse reads the whole of b by one method of the parser.
func parse[T any](b []byte, whole func(*parser) T) (x T, at int, e api.Errno) {
	var none T
	tokens, at, e := lex.Tokens(b)
	if e != api.OK {
		return none, at, e
	}
	defer func() {
		switch r := recover().(type) {
		case nil:
		case fault:
			x, at, e = none, int(r), api.ErrText
		default:
			panic(r)
		}
	}()
	p := newParser(tokens)
	x = whole(p)
	p.want(p.peek().Kind == api.EndK)
	return x, 0, api.OK
}

// parser reads tokens, of which the last has kind EndK. Its methods panic with a fault at the first token that can't stand where it does.
type parser struct {
	tokens              []api.Token
	at                  int
	forms, terms, sorts map[string]int
}

// newParser returns a parser at the start of the tokens.
func newParser(tokens []api.Token) *parser {
	w := words()
	return &parser{tokens: tokens, forms: numbers(w.forms), terms: numbers(w.terms), sorts: numbers(w.sorts)}
}

// numbers maps words to their indices.
func numbers(l []string) map[string]int {
	m := map[string]int{}
	for i, w := range l {
		if w != "" {
			m[w] = i
		}
	}
	return m
}

// peek returns the next token.
func (p *parser) peek() api.Token {
	return p.tokens[p.at]
}

// want panics at the next token unless ok.
func (p *parser) want(ok bool) {
	if !ok {
		panic(fault(p.peek().At))
	}
}

// accept skips the next token if it is the given word or sign, and reports whether it is.
func (p *parser) accept(text string) bool {
	if p.peek().Text != text {
		return false
	}
	p.at++
	return true
}

// expect skips the next token, which must be the given word or sign.
func (p *parser) expect(text string) {
	p.want(p.accept(text))
}

// name reads a name.
func (p *parser) name() string {
	t := p.peek()
	p.want(name.Is(t.Text))
	p.at++
	return t.Text
}

// number reads a numeral from least to most.
func (p *parser) number(least, most int) int {
	t := p.peek()
	n, err := strconv.Atoi(t.Text)
	p.want(t.Kind == api.NumK && err == nil && n >= least && n <= most)
	p.at++
	return n
}

// keyword reads a word that m contains and returns its number.
func (p *parser) keyword(m map[string]int) int {
	n, ok := m[p.peek().Text]
	p.want(ok)
	p.at++
	return n
}

// separated reads one or more items, at most most, with a sign between them.
func separated[T any](p *parser, sign string, most int, item func(*parser) T) []T {
	l := []T{item(p)}
	for len(l) < most && p.accept(sign) {
		l = append(l, item(p))
	}
	return l
}

// rules reads all rules up to the end.
func (p *parser) rules() []api.Rule {
	var l []api.Rule
	for p.peek().Kind != api.EndK {
		l = append(l, p.rule())
	}
	return l
}

// rule reads a rule.
func (p *parser) rule() api.Rule {
	var r api.Rule
	if p.accept("hard") {
		r.Hard, r.Name = true, p.name()
	} else {
		p.expect("soft")
		r.Name, r.Weight = p.name(), p.number(1, api.MaxWeight)
	}
	if p.accept("each") {
		r.Each = p.binds()
	}
	p.expect(":")
	r.Body = p.formula()
	p.expect(";")
	return r
}

// binds reads a list of binds.
func (p *parser) binds() []api.Bind {
	return separated(p, ",", api.MaxBinds, (*parser).bind)
}

// bind reads a name and its sort.
func (p *parser) bind() api.Bind {
	n := p.name()
	p.expect(":")
	return api.Bind{Name: n, Sort: p.keyword(p.sorts)}
}

// formula reads implications, which associate to the right.
func (p *parser) formula() api.Form {
	l := separated(p, "->", math.MaxInt, (*parser).or)
	last := len(l) - 1
	f := l[last]
	for last > 0 {
		last--
		f = api.Form{Kind: api.ImpF, L: []api.Form{l[last], f}}
	}
	return f
}

// or reads disjunctions.
func (p *parser) or() api.Form {
	return toLeft(api.OrF, separated(p, "|", math.MaxInt, (*parser).and))
}

// and reads conjunctions.
func (p *parser) and() api.Form {
	return toLeft(api.AndF, separated(p, "&", math.MaxInt, (*parser).unary))
}

// toLeft joins formulas by a connective that associates to the left.
func toLeft(kind int, l []api.Form) api.Form {
	f := l[0]
	for _, g := range l[1:] {
		f = api.Form{Kind: kind, L: []api.Form{f, g}}
	}
	return f
}

// unary reads a formula that is no operand of a binary connective, or stands in parentheses.
func (p *parser) unary() api.Form {
	if p.accept("(") {
		return p.closed()
	}
	kind, ok := p.forms[p.peek().Text]
	if !ok {
		return p.comparison()
	}
	p.want(kind < api.AndF || kind > api.ImpF)
	p.at++
	f := api.Form{Kind: kind}
	switch kind {
	case api.TrueF, api.FalseF:
	case api.NotF:
		f.L = []api.Form{p.unary()}
	case api.LeastF, api.MostF:
		f.N = p.number(0, api.MaxNum)
		p.quantified(&f)
	case api.AllF, api.SomeF:
		p.quantified(&f)
	default:
		p.expect("(")
		first := p.name()
		p.expect(",")
		f.Terms = []api.Term{{Kind: api.VarT, Name: first}, {Kind: api.VarT, Name: p.name()}}
		p.expect(")")
	}
	return f
}

// closed reads a formula and the parenthesis behind it.
func (p *parser) closed() api.Form {
	f := p.formula()
	p.expect(")")
	return f
}

// quantified reads the binds and the subformula of a quantifier.
func (p *parser) quantified(f *api.Form) {
	f.Binds = p.binds()
	p.expect("(")
	f.L = []api.Form{p.closed()}
}

// comparison reads two terms with an operator between them.
func (p *parser) comparison() api.Form {
	left := p.term()
	op := p.peek().Text
	switch op {
	case "=", "!=", "<", "<=", ">", ">=":
		p.at++
	default:
		p.want(false)
	}
	return api.Form{Kind: api.CmpF, Name: op, Terms: []api.Term{left, p.term()}}
}

// term reads a term.
func (p *parser) term() api.Term {
	t := p.peek()
	switch {
	case t.Kind == api.NumK:
		return api.Term{Kind: api.NumT, N: p.number(0, api.MaxNum)}
	case name.Is(t.Text):
		return api.Term{Kind: api.VarT, Name: p.name()}
	}
	kind := p.keyword(p.terms)
	p.expect("(")
	n := p.name()
	p.expect(")")
	return api.Term{Kind: kind, Name: n}
}
