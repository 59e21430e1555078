package name_test

import (
	"strings"
	"testing"

	"chalkline/name"
)

func TestNames(t *testing.T) {
	for _, s := range []string{"a", "z", "a0", "a_", "a_9", "mon1", "halls", "hard_", "even", "t", "rooms", strings.Repeat("a", 64), "z" + strings.Repeat("_", 63)} {
		if !name.Is(s) {
			t.Errorf("%q should be a name", s)
		}
	}
	for _, s := range []string{"", "A", "0", "9a", "_", "_a", "a b", " a", "a ", " ", "a-", "aB", "é", "aé", "a\x00", "a{", "a`", "a/", "a:", "hard soft", strings.Repeat("a", 65)} {
		if name.Is(s) {
			t.Errorf("%q should not be a name", s)
		}
	}
}

func TestReservedWordsAreNoNames(t *testing.T) {
	words := strings.Fields("hard soft each all some least most true false at in teaches attends away shut day hour house seats size lesson slot room person group")
	if len(words) != 25 {
		t.Fatal(len(words))
	}
	for _, w := range words {
		if name.Is(w) {
			t.Errorf("%q is reserved", w)
		}
		if !name.Is(w + "x") {
			t.Errorf("%q is not reserved", w+"x")
		}
	}
}

func TestEveryByte(t *testing.T) {
	for c := range 256 {
		letter := c >= 97 && c <= 122
		other := c >= 48 && c <= 57 || c == 95
		if name.Is(string([]byte{byte(c)})) != letter {
			t.Errorf("byte %d as the first", c)
		}
		if name.Is(string([]byte{'q', byte(c)})) != (letter || other) {
			t.Errorf("byte %d as the second", c)
		}
	}
}
