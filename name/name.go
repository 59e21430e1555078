// Package name says which strings are names of elements, rules and variables.
package name

import (
	"strings"

	"chalkline/api"
)

// reserved holds the words that the rule language keeps for itself, each between spaces.
const reserved = " hard soft each all some least most true false at in teaches attends away shut day hour house seats size lesson slot room person group "

// Is reports whether s is a name: 1 to MaxText bytes from a to z, 0 to 9 and _, a letter first, and no reserved word.
func Is(s string) bool {
	if len(s) < 1 || len(s) > api.MaxText || !letter(s[0]) {
		return false
	}
	for i := range len(s) {
		if !letter(s[i]) && !digit(s[i]) && s[i] != '_' {
			return false
		}
	}
	return !strings.Contains(reserved, " "+s+" ")
}

// letter reports whether c is a byte a to z.
func letter(c byte) bool { return 'a' <= c && c <= 'z' }

// digit reports whether c is a byte 0 to 9.
func digit(c byte) bool { return '0' <= c && c <= '9' }
