package lex_test

import (
	"bytes"
	"fmt"
	"math/rand/v2"
	"regexp"
	"slices"
	"strconv"
	"strings"
	"testing"

	"chalkline/api"
	"chalkline/lex"
)

// list spells tokens as "kind text offset" for comparison with what a test writes down.
func list(l []api.Token) string {
	var out []string
	for _, t := range l {
		out = append(out, fmt.Sprintf("%c%s@%d", " wnse"[t.Kind], t.Text, t.At))
	}
	return strings.Join(out, " ")
}

func TestTokens(t *testing.T) {
	long := strings.Repeat("a", 64)
	for src, want := range map[string]string{
		"":                          "e@0",
		" \t\n ":                    "e@4",
		"#":                         "e@1",
		"# x ( \n":                  "e@7",
		"#a\n#b\nx#c":               "wx@6 e@9",
		"at(l, s)#":                 "wat@0 s(@2 wl@3 s,@4 ws@6 s)@7 e@9",
		"a->!=":                     "wa@0 s->@1 s!=@3 e@5",
		"hard one: true;":           "whard@0 wone@5 s:@8 wtrue@10 s;@14 e@15",
		"( ) { } , : ; . = != < <=": "s(@0 s)@2 s{@4 s}@6 s,@8 s:@10 s;@12 s.@14 s=@16 s!=@18 s<@21 s<=@23 e@25",
		"> >= & | ! ->":             "s>@0 s>=@2 s&@5 s|@7 s!@9 s->@11 e@13",
		"(){},:;.&|":                "s(@0 s)@1 s{@2 s}@3 s,@4 s:@5 s;@6 s.@7 s&@8 s|@9 e@10",
		"<<==>>=!!==":               "s<@0 s<=@1 s=@3 s>@4 s>=@5 s!@7 s!=@8 s=@10 e@11",
		"!->":                       "s!@0 s->@1 e@3",
		"a1_b_ 9z":                  "wa1_b_@0 n9@6 wz@7 e@8",
		"0 10 1099511627776":        "n0@0 n10@2 n1099511627776@5 e@18",
		"0x":                        "n0@0 wx@1 e@2",
		long + ".":                  "w" + long + "@0 s.@64 e@65",
	} {
		l, at, e := lex.Tokens([]byte(src))
		if e != api.OK || at != 0 || list(l) != want {
			t.Errorf("%q: %s, %d, %d; want %s", src, list(l), at, e, want)
		}
	}
}

func TestTokensErrors(t *testing.T) {
	long := strings.Repeat("a", 65)
	for src, want := range map[string]int{
		"07": 0, "-": 0, "00": 0, "1099511627777": 0, "99999999999999999999999999": 0, "18446744073709551617": 0,
		"a -": 2, "a - >": 2, "_a": 0, "a _": 2, "A": 0, "aB": 1, "x 07 y": 2, "x\r": 1, "\v": 0, "é": 0, "\x00": 0,
		"a ~": 2, "a\n\n$": 3, "#\n 1099511627777": 3, long: 0, "b " + long: 2, "a[": 1, "a+b": 1, "\"": 0, "a`": 1, "a/": 1, "a@": 1, "\xff": 0,
		"000": 0, "01a": 0, "- 07": 0,
	} {
		if l, at, e := lex.Tokens([]byte(src)); e != api.ErrWord || at != want || len(l) > 0 {
			t.Errorf("%q: %s, %d, %d; want offset %d", src, list(l), at, e, want)
		}
	}
}

func TestTokensOfLongSources(t *testing.T) {
	src := []byte(strings.Repeat("ab ~", 5000))
	for n, want := range map[int]api.Errno{16384: api.ErrWord, 16385: api.ErrBound, 20000: api.ErrBound} {
		at := 0
		if want == api.ErrWord {
			at = 3
		}
		if l, got, e := lex.Tokens(src[:n]); e != want || got != at || len(l) > 0 {
			t.Error(n, got, e)
		}
	}
	src = []byte(strings.Repeat("ab +", 5000))
	for i := range src {
		if src[i] == '+' {
			src[i] = '&'
		}
	}
	if l, at, e := lex.Tokens(src[:16384]); e != api.OK || at != 0 || len(l) != 8193 || l[8192].At != 16384 {
		t.Error(len(l), at, e)
	}
	if l, at, e := lex.Tokens(src[:16385]); e != api.ErrBound || at != 0 || len(l) > 0 {
		t.Error(len(l), at, e)
	}
}

var (
	blank = regexp.MustCompile(`^(?:[ \t\n]|#[^\n]*)+`)
	word  = regexp.MustCompile(`^[a-z][a-z0-9_]*`)
	num   = regexp.MustCompile(`^[0-9]+`)
	sign  = regexp.MustCompile(`^(?:->|!=|<=|>=|[(){},:;.=<>&|!])`)
)

// byPatterns is a second lexer, made of regular expressions.
func byPatterns(src string) (l []api.Token, at int, e api.Errno) {
	for {
		at += len(blank.FindString(src[at:]))
		if at == len(src) {
			return append(l, api.Token{Kind: api.EndK, At: at}), 0, api.OK
		}
		kind, text := api.WordK, word.FindString(src[at:])
		if text == "" {
			kind, text = api.NumK, num.FindString(src[at:])
		}
		if text == "" {
			kind, text = api.SignK, sign.FindString(src[at:])
		}
		n, err := strconv.Atoi(text)
		if text == "" || len(text) > 64 && kind == api.WordK || kind == api.NumK && (err != nil || n > 1<<40 || strconv.Itoa(n) != text) {
			return nil, at, api.ErrWord
		}
		l = append(l, api.Token{Kind: kind, Text: text, At: at})
		at += len(text)
	}
}

func TestTokensOfRandomSources(t *testing.T) {
	r := rand.New(rand.NewPCG(1, 1))
	parts := []string{"a", "z9", "_", "0", "1", "42", "(", ")", "{", "}", ",", ":", ";", ".", "=", "!", "<", ">", "&", "|", "-", "->", " ", "\n", "\t", "#", "# x", "hard", "some", "1099511627775"}
	ok := 0
	for range 20000 {
		var src string
		for range r.IntN(9) {
			src += parts[r.IntN(len(parts))]
		}
		l, at, e := lex.Tokens([]byte(src))
		x, xat, xe := byPatterns(src)
		if !slices.Equal(l, x) || at != xat || e != xe {
			t.Fatalf("%q: %s, %d, %d; want %s, %d, %d", src, list(l), at, e, list(x), xat, xe)
		}
		if e != api.OK {
			continue
		}
		ok++
		b, e := lex.Join(l)
		y, _, f := lex.Tokens(b)
		if e != api.OK || f != api.OK || !slices.EqualFunc(l, y, func(a, b api.Token) bool { return a.Kind == b.Kind && a.Text == b.Text }) {
			t.Fatalf("%q joined is %q", src, b)
		}
	}
	if ok < 1000 {
		t.Error("only", ok, "sources without an error")
	}
}

func TestJoinedByNewline(t *testing.T) {
	for _, x := range [][2]string{{"a", "b"}, {"a #", "b"}, {"-", "a"}, {"1", "2"}, {"", ""}, {"<", "="}, {"# x", "# y"}} {
		l, _, e1 := lex.Tokens([]byte(x[0]))
		m, _, e2 := lex.Tokens([]byte(x[1]))
		n, _, e3 := lex.Tokens([]byte(x[0] + "\n" + x[1]))
		if e1 != api.OK {
			if e3 == api.OK {
				t.Error(x)
			}
			continue
		}
		for _, k := range m {
			k.At += len(x[0]) + 1
			l = append(l[:len(l):len(l)], k)
		}
		l = slices.DeleteFunc(l, func(k api.Token) bool { return k.Kind == api.EndK && k.At <= len(x[0]) && k != l[len(l)-1] })
		if e2 != api.OK || e3 != api.OK || !slices.Equal(l, n) {
			t.Error(x, list(l), list(n))
		}
	}
}

func token(kind int, text string) api.Token { return api.Token{Kind: kind, Text: text, At: -7} }

func TestJoin(t *testing.T) {
	end := token(api.EndK, "")
	for _, x := range []struct {
		l    []api.Token
		want string
		e    api.Errno
	}{
		{[]api.Token{end}, "", api.OK},
		{[]api.Token{token(api.WordK, "hard"), end}, "hard", api.OK},
		{[]api.Token{token(api.WordK, "a"), token(api.NumK, "0"), token(api.SignK, "->"), end}, "a 0 ->", api.OK},
		{[]api.Token{token(api.NumK, "1099511627776"), token(api.WordK, strings.Repeat("z", 64)), end}, "1099511627776 " + strings.Repeat("z", 64), api.OK},
		{nil, "", api.ErrArg},
		{[]api.Token{token(api.WordK, "a")}, "", api.ErrArg},
		{[]api.Token{end, token(api.WordK, "a")}, "", api.ErrArg},
		{[]api.Token{end, end}, "", api.ErrArg},
		{[]api.Token{token(api.EndK, "a")}, "", api.ErrArg},
		{[]api.Token{token(api.WordK, "")}, "", api.ErrArg},
		{[]api.Token{token(0, "")}, "", api.ErrArg},
		{[]api.Token{token(0, ""), end}, "", api.ErrArg},
		{[]api.Token{token(5, "a"), end}, "", api.ErrArg},
		{[]api.Token{token(-1, "a"), end}, "", api.ErrArg},
	} {
		if b, e := lex.Join(x.l); string(b) != x.want || e != x.e {
			t.Errorf("Join(%v) = %q, %d", x.l, b, e)
		}
	}
	for kind, texts := range map[int][]string{
		api.WordK: {"", "A", "9", "a b", "_a", "a-", "+", "aé", strings.Repeat("a", 65)},
		api.NumK:  {"", "00", "07", "1a", "-1", "1099511627777", "1 ", "99999999999999999999", "18446744073709551616", "+1"},
		api.SignK: {"", "-", "==", "<>", "!!", "a", "~", " ", "->>", "( ", "()", "= ", ">=<"},
	} {
		for _, s := range texts {
			if b, e := lex.Join([]api.Token{token(kind, s), end}); e != api.ErrArg || len(b) > 0 {
				t.Errorf("Join of kind %d, %q: %q, %d", kind, s, b, e)
			}
		}
	}
	for _, s := range strings.Fields("( ) { } , : ; . = != < <= > >= & | ! ->") {
		if b, e := lex.Join([]api.Token{token(api.SignK, s), end}); e != api.OK || string(b) != s {
			t.Errorf("Join of the sign %s: %q, %d", s, b, e)
		}
		if b, e := lex.Join([]api.Token{token(api.WordK, s), end}); e != api.ErrArg || len(b) > 0 {
			t.Errorf("Join of the word %s: %q, %d", s, b, e)
		}
	}
}

func TestJoinOfManyTokens(t *testing.T) {
	var l []api.Token
	for range 8192 {
		l = append(l, token(api.SignK, "!"))
	}
	end := token(api.EndK, "")
	// 8192 bytes and 8191 spaces between them; one byte more is the limit.
	if b, e := lex.Join(append(slices.Clone(l), end)); e != api.OK || !bytes.Equal(b, []byte(strings.Repeat("! ", 8192)[:16383])) {
		t.Error(len(b), e)
	}
	l[5].Text = "!="
	if b, e := lex.Join(append(slices.Clone(l), end)); e != api.OK || len(b) != 16384 {
		t.Error(len(b), e)
	}
	l[6].Text = "->"
	if b, e := lex.Join(append(slices.Clone(l), end)); e != api.ErrBound || len(b) > 0 {
		t.Error(len(b), e)
	}
	l[7].Text = "-"
	if b, e := lex.Join(append(slices.Clone(l), end)); e != api.ErrArg || len(b) > 0 {
		t.Error(len(b), e)
	}
	if b, e := lex.Join(l); e != api.ErrArg || len(b) > 0 {
		t.Error(len(b), e)
	}
}
