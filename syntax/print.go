package syntax

import (
	"strconv"

	"chalkline/api"
	"chalkline/formula"
)

// The strengths with which the connectives bind their operands; everything else binds as strongly as can be.
const (
	ofImp = iota + 1
	ofOr
	ofAnd
	ofRest
)

// Text returns the canonical text of a formula.
func Text(f api.Form) ([]byte, api.Errno) {
	if e := formula.Check(f); e != api.OK {
		return nil, e
	}
	p := newPrinter()
	p.form(f)
	if len(p.b) > api.MaxSource {
		return nil, api.ErrBound
	}
	return p.b, api.OK
}

// Print returns the canonical text of rules.
func Print(l []api.Rule) ([]byte, api.Errno) {
	if e := Check(l); e != api.OK {
		return nil, e
	}
	p := newPrinter()
	for _, r := range l {
		p.rule(r)
	}
	return p.b, api.OK
}

// printer appends the canonical texts of well-formed rules and their parts to b.
type printer struct {
	b     []byte
	words vocabulary
}

// newPrinter returns a printer that has printed nothing yet.
func newPrinter() *printer {
	return &printer{words: words()}
}

// add appends texts.
func (p *printer) add(l ...string) {
	for _, s := range l {
		p.b = append(p.b, s...)
	}
}

// rule prints a rule as a line.
func (p *printer) rule(r api.Rule) {
	if r.Hard {
		p.add("hard ", r.Name)
	} else {
		p.add("soft ", r.Name, " ", strconv.Itoa(r.Weight))
	}
	if len(r.Each) > 0 {
		p.add(" each ")
		p.binds(r.Each)
	}
	p.add(": ")
	p.form(r.Body)
	p.add(";\n")
}

// binds prints a list of binds.
func (p *printer) binds(l []api.Bind) {
	for i, b := range l {
		if i > 0 {
			p.add(", ")
		}
		p.add(b.Name, ": ", p.words.sorts[b.Sort])
	}
}

// form prints a formula without parentheses around it.
func (p *printer) form(f api.Form) {
	word := p.words.forms[f.Kind]
	switch f.Kind {
	case api.TrueF, api.FalseF:
		p.add(word)
	case api.CmpF:
		p.term(f.Terms[0])
		p.add(" ", f.Name, " ")
		p.term(f.Terms[1])
	case api.NotF:
		p.add("!")
		p.operand(f.L[0], ofRest)
	case api.AndF, api.OrF, api.ImpF:
		left, right := strength(f), strength(f)+1
		if f.Kind == api.ImpF {
			left, right = ofOr, ofImp
		}
		p.operand(f.L[0], left)
		p.add(" ", word, " ")
		p.operand(f.L[1], right)
	case api.AllF, api.SomeF, api.LeastF, api.MostF:
		p.add(word, " ")
		if f.Kind == api.LeastF || f.Kind == api.MostF {
			p.add(strconv.Itoa(f.N), " ")
		}
		p.binds(f.Binds)
		p.add(" (")
		p.form(f.L[0])
		p.add(")")
	default:
		p.add(word, "(", f.Terms[0].Name, ", ", f.Terms[1].Name, ")")
	}
}

// operand prints a formula, in parentheses if it binds its operands more weakly than least.
func (p *printer) operand(f api.Form, least int) {
	if strength(f) >= least {
		p.form(f)
		return
	}
	p.add("(")
	p.form(f)
	p.add(")")
}

// strength returns how strongly a formula binds its operands.
func strength(f api.Form) int {
	switch f.Kind {
	case api.ImpF:
		return ofImp
	case api.OrF:
		return ofOr
	case api.AndF:
		return ofAnd
	}
	return ofRest
}

// term prints a term.
func (p *printer) term(t api.Term) {
	switch t.Kind {
	case api.NumT:
		p.add(strconv.Itoa(t.N))
	case api.VarT:
		p.add(t.Name)
	default:
		p.add(p.words.terms[t.Kind], "(", t.Name, ")")
	}
}
