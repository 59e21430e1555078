package syntax_test

import (
	"fmt"
	"math/rand/v2"
	"strconv"
	"strings"
	"testing"

	"chalkline/api"
	"chalkline/lex"
	"chalkline/name"
	"chalkline/syntax"
)

// grammar is the chapter's grammar without options and repetitions. START1 is a formula, START2 are rules.
const grammar = `
START1 = formula END
START2 = END | rules END
rules = rule | rule rules
rule = head : formula ; | head each binds : formula ;
head = hard NAME | soft NAME WEIGHT
bind = NAME : sort
binds = bind | bind , bind | bind , bind , bind | bind , bind , bind , bind | bind , bind , bind , bind , bind | bind , bind , bind , bind , bind , bind
sort = lesson | slot | room | person | group | day | house
formula = or | or -> formula
or = and | or BAR and
and = un | and & un
un = ! un | all binds ( formula ) | some binds ( formula ) | least NUMBER binds ( formula ) | most NUMBER binds ( formula ) | true | false | ( formula ) | atom
atom = pred ( NAME , NAME ) | term op term
pred = at | in | teaches | attends | away | shut
op = = | != | < | <= | > | >=
term = NUMBER | NAME | func ( NAME )
func = day | hour | house | seats | size`

// recognizer is an Earley recognizer: slow, and without any choice of how to parse.
type recognizer map[string][][]string

func newRecognizer() recognizer {
	g := recognizer{}
	for _, line := range strings.Split(strings.TrimSpace(grammar), "\n") {
		left, right, _ := strings.Cut(line, " = ")
		for _, alt := range strings.Split(right, " | ") {
			g[left] = append(g[left], strings.Fields(alt))
		}
	}
	return g
}

type item struct {
	left     string
	alt, dot int
	from     int
}

// fits reports whether a token is the terminal.
func fits(t api.Token, terminal string) bool {
	switch terminal {
	case "END":
		return t.Kind == api.EndK
	case "NAME":
		return t.Kind == api.WordK && name.Is(t.Text)
	case "NUMBER":
		return t.Kind == api.NumK
	case "WEIGHT":
		n, _ := strconv.Atoi(t.Text)
		return t.Kind == api.NumK && n >= 1 && n <= 1000
	case "BAR":
		return t.Text == "|"
	}
	return t.Text == terminal && t.Kind != api.EndK
}

// wrong returns the index of the first token that can't continue any sentence of start, or -1.
func (g recognizer) wrong(start string, tokens []api.Token) int {
	sets := make([][]item, len(tokens)+1)
	seen := make([]map[item]bool, len(tokens)+1)
	add := func(k int, it item) {
		if seen[k] == nil {
			seen[k] = map[item]bool{}
		}
		if !seen[k][it] {
			seen[k][it] = true
			sets[k] = append(sets[k], it)
		}
	}
	for alt := range g[start] {
		add(0, item{start, alt, 0, 0})
	}
	for k, t := range tokens {
		for i := 0; i < len(sets[k]); i++ {
			it := sets[k][i]
			body := g[it.left][it.alt]
			if it.dot == len(body) {
				for _, up := range sets[it.from] {
					b := g[up.left][up.alt]
					if up.dot < len(b) && b[up.dot] == it.left {
						up.dot++
						add(k, up)
					}
				}
				continue
			}
			if alts := g[body[it.dot]]; alts != nil && body[it.dot] != "=" {
				for alt := range alts {
					add(k, item{body[it.dot], alt, 0, k})
				}
			} else if fits(t, body[it.dot]) {
				it.dot++
				add(k+1, it)
			}
		}
		if len(sets[k+1]) == 0 {
			return k
		}
	}
	return -1
}

// mutate changes a text of tokens at one place.
func mutate(r *rand.Rand, l []string) []string {
	vocabulary := strings.Fields("hard soft each all some least most true false at in teaches shut day hour size lesson slot house x y2 0 1 1000 1001 7 ( ) , : ; = != < >= & | ! -> { .")
	w := vocabulary[r.IntN(len(vocabulary))]
	at := r.IntN(len(l) + 1)
	switch k := r.IntN(3); {
	case k == 0 || at == len(l):
		return append(append(append([]string{}, l[:at]...), w), l[at:]...)
	case k == 1:
		return append(append([]string{}, l[:at]...), l[at+1:]...)
	}
	out := append([]string{}, l...)
	out[at] = w
	return out
}

func TestSyntaxErrorsAgainstTheGrammar(t *testing.T) {
	g := newRecognizer()
	seeds := map[string]string{
		"START1": "all l : lesson , s : slot ( at ( l , s ) -> ! ( hour ( s ) < 3 | in ( l , r ) & true ) )",
		"START2": "hard one each l : lesson , d : day : some s : slot ( at ( l , s ) & day ( s ) = d ) ; soft two 5 : least 2 p : person ( teaches ( p , x ) ) ;",
	}
	r := rand.New(rand.NewPCG(1, 1))
	good, bad := 0, 0
	for start, seed := range map[string]string{"START1": seeds["START1"], "START2": seeds["START2"]} {
		for i := range 3000 {
			l := strings.Fields(seed)
			for range i % 4 {
				l = mutate(r, l)
			}
			src := []byte(strings.Join(l, " "))
			tokens, _, e := lex.Tokens(src)
			if e != api.OK {
				t.Fatal(string(src), e)
			}
			var at int
			if start == "START1" {
				_, at, e = syntax.Form(src)
			} else {
				_, at, e = syntax.Parse(src)
			}
			k := g.wrong(start, tokens)
			if k < 0 {
				good++
				if e == api.ErrText || at != 0 {
					t.Fatalf("%s: error %d at %d", src, e, at)
				}
				continue
			}
			bad++
			if e != api.ErrText || at != tokens[k].At {
				t.Fatalf("%s: error %d at %d, want one at %d", src, e, at, tokens[k].At)
			}
		}
	}
	if good < 500 || bad < 500 {
		t.Error(good, bad)
	}
}

// The seventh bind is refused at its comma, everywhere.
func TestSevenBinds(t *testing.T) {
	six := ""
	for i := range 6 {
		six += fmt.Sprintf(", b%d: slot", i)
	}
	six = six[2:]
	for src, want := range map[string]int{"all " + six + " (true)": -1, "all " + six + ", x: slot (true)": 4 + len(six), "least 3 " + six + ", 9": 8 + len(six)} {
		_, at, e := syntax.Form([]byte(src))
		if want < 0 && e != api.OK || want >= 0 && (e != api.ErrText || at != want) {
			t.Error(src, at, e)
		}
	}
	for src, want := range map[string]int{"hard a each " + six + ": true;": -1, "hard a each " + six + ", x: slot: true;": 12 + len(six)} {
		_, at, e := syntax.Parse([]byte(src))
		if want < 0 && e != api.OK || want >= 0 && (e != api.ErrText || at != want) {
			t.Error(src, at, e)
		}
	}
}
