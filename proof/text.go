package proof

import (
	"strconv"
	"strings"

	"chalkline/api"
)

const (
	maxText = 1 << 22 // bytes of a text that is read
	letters = " old"  // the letter of each kind of line
)

// Put writes a proof as text.
func Put(p []api.Line) ([]byte, api.Errno) {
	if e := checkLines(p); e != api.OK {
		return nil, e
	}
	var b []byte
	for _, line := range p {
		b = append(b, letters[line.Kind])
		for _, lit := range line.L {
			b = strconv.AppendInt(append(b, ' '), int64(lit), 10)
		}
		b = append(b, " 0\n"...)
	}
	return b, api.OK
}

// Get parses the text of a proof.
func Get(b []byte) ([]api.Line, api.Errno) {
	if len(b) > maxText {
		return nil, api.ErrBound
	}
	var p []api.Line
	for line := range strings.SplitAfterSeq(string(b), "\n") {
		if line == "" {
			break
		}
		x, ok := getLine(line)
		if !ok {
			return nil, api.ErrForm
		}
		p = append(p, x)
	}
	if len(p) > maxLines {
		return nil, api.ErrBound
	}
	return p, api.OK
}

// getLine parses a line with its newline.
func getLine(line string) (api.Line, bool) {
	text, ok := strings.CutSuffix(line, " 0\n")
	if !ok {
		return api.Line{}, false
	}
	letter, rest, more := strings.Cut(text, " ")
	x := api.Line{Kind: strings.Index(letters, letter)}
	if len(letter) != 1 || x.Kind < api.GivenP {
		return api.Line{}, false
	}
	for more {
		var word string
		word, rest, more = strings.Cut(rest, " ")
		lit, err := strconv.Atoi(word)
		if err != nil || strconv.Itoa(lit) != word {
			return api.Line{}, false
		}
		x.L = append(x.L, lit)
	}
	return x, len(literals(x.L)) == len(x.L)
}
