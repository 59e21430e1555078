package console

import (
	"strconv"
	"strings"

	"chalkline/api"
	"chalkline/school"
)

// format is the format of a line: its first word, a letter for each field, and what else the line says of its operation.
type format struct {
	word, fields string
	kind, edit   int
	off          bool
}

// formats are the formats of all lines. The letters are those of the function fields.
var formats = [21]format{
	{"school", "ht", api.SchoolDo, 0, false},
	{"away", "ps", api.EditDo, api.AwayE, false},
	{"back", "ps", api.EditDo, api.AwayE, true},
	{"shut", "ps", api.EditDo, api.ShutE, false},
	{"open", "ps", api.EditDo, api.ShutE, true},
	{"add", "r", api.EditDo, api.AddE, false},
	{"change", "r", api.EditDo, api.ChangeE, false},
	{"drop", "p", api.EditDo, api.DropE, false},
	{"freeze", "p", api.EditDo, api.FreezeE, false},
	{"free", "p", api.EditDo, api.FreezeE, true},
	{"solve", "n", api.SolveDo, 0, false},
	{"publish", "", api.PublishDo, 0, false},
	{"sync", "", api.SyncDo, 0, false},
	{"crash", "n", api.CrashDo, 0, false},
	{"why", "n", api.WhyDo, 0, false},
	{"what", "lwn", api.WhatDo, 0, false},
	{"send", "n", api.SendDo, 0, false},
	{"wish", "n", api.WishDo, 0, false},
	{"get", "n", api.GetDo, 0, false},
	{"lose", "n", api.LoseDo, 0, false},
	{"twice", "n", api.TwiceDo, 0, false},
}

// field reads a field of a line into an operation and reports whether it is valid, writes it and reports whether there is a line with it, and tells whether it is zero.
type field struct {
	read   func(word string) bool
	write  func() (string, bool)
	isZero func() bool
}

// fields returns the fields of an operation by their letters.
func fields(d *api.Do) map[rune]field {
	return map[rune]field{
		'h': schoolField(&d.School),
		't': bytesField(&d.Text),
		'r': bytesField(&d.Edit.Text),
		'p': nameField(&d.Edit.Name),
		's': nameField(&d.Edit.Slot),
		'l': nameField(&d.Name),
		'w': nameField(&d.Slot),
		'n': numberField(&d.N),
	}
}

// schoolField is a field for a school, which is written as the bytes of its encoding.
func schoolField(to *api.School) field {
	return field{
		read: func(word string) bool {
			b, ok := unhex(word)
			if !ok {
				return false
			}
			s, e := school.Get(b)
			*to = s
			return e == api.OK
		},
		write: func() (string, bool) {
			b, e := school.Put(*to)
			return hex(b), e == api.OK
		},
		isZero: func() bool {
			return len(to.Slots)+len(to.Rooms)+len(to.People)+len(to.Groups)+len(to.Lessons) == 0
		},
	}
}

// bytesField is a field for a byte string.
func bytesField(to *[]byte) field {
	return field{
		read: func(word string) bool {
			b, ok := unhex(word)
			*to = b
			return ok
		},
		write:  func() (string, bool) { return hex(*to), true },
		isZero: func() bool { return len(*to) == 0 },
	}
}

// nameField is a field for a name.
func nameField(to *string) field {
	return field{
		read: func(word string) bool {
			*to = word
			return isName(word)
		},
		write:  func() (string, bool) { return *to, isName(*to) },
		isZero: func() bool { return *to == "" },
	}
}

// numberField is a field for a number.
func numberField(to *int) field {
	return field{
		read: func(word string) bool {
			n, ok := number(word)
			*to = n
			return ok
		},
		write: func() (string, bool) {
			return strconv.Itoa(*to), *to >= 0 && *to <= api.MaxNum
		},
		isZero: func() bool { return *to == 0 },
	}
}

// isName reports whether a word is a name.
func isName(word string) bool {
	outside := func(r rune) bool { return (r < 'a' || r > 'z') && (r < '0' || r > '9') && r != '_' }
	return len(word) >= 1 && len(word) <= api.MaxText && !strings.ContainsFunc(word, outside)
}

// number returns the value of a word, and whether it is a number.
func number(word string) (int, bool) {
	n, err := strconv.Atoi(word)
	// Only the text of a number itself has neither a sign nor superfluous zeros.
	if err != nil || n < 0 || n > api.MaxNum || strconv.Itoa(n) != word {
		return 0, false
	}
	return n, true
}

// digits are the hexadecimal digits.
const digits = "0123456789abcdef"

// hex writes bytes as one field.
func hex(b []byte) string {
	word := make([]byte, 0, 1+2*len(b))
	word = append(word, '.')
	for _, x := range b {
		word = append(word, digits[x>>4], digits[x&15])
	}
	return string(word)
}

// unhex returns the bytes that a field stands for, and whether it stands for any.
func unhex(word string) ([]byte, bool) {
	if len(word)%2 == 0 || word[0] != '.' {
		return nil, false
	}
	b := make([]byte, 0, len(word)/2)
	for at := 1; at < len(word); at += 2 {
		high, low := strings.IndexByte(digits, word[at]), strings.IndexByte(digits, word[at+1])
		if high < 0 || low < 0 {
			return nil, false
		}
		b = append(b, byte(high<<4|low))
	}
	return b, true
}
