package text

import (
	"slices"
	"strconv"
	"strings"

	"monocoque/api"
	"monocoque/book"
)

const mostNumber = 1 << 40

// A field is a word of a line together with where its value is.
// Parse and Print go through the same fields, so neither has a form of its own.
type field struct {
	print func() string
	parse func(word string) api.Errno // of a word that is not empty
}

// read sets the value to that of a word, of which there is none if it is empty.
func (f field) read(word string) api.Errno {
	if word == "" {
		return api.ErrShort
	}
	return f.parse(word)
}

// name is a name.
func name(to *string) field {
	return field{
		print: func() string { return *to },
		parse: func(word string) api.Errno {
			if !book.Name(word) {
				return api.ErrName
			}
			*to = strings.Clone(word) // otherwise the name would keep all of the text
			return api.OK
		},
	}
}

// number is a number.
func number(to *int) field {
	return field{
		print: func() string { return strconv.Itoa(*to) },
		parse: func(word string) (e api.Errno) {
			*to, e = toNumber(word)
			return e
		},
	}
}

// toNumber returns the number that a word is.
func toNumber(word string) (int, api.Errno) {
	for _, c := range []byte(word) {
		if c < '0' || c > '9' {
			return 0, api.ErrForm
		}
	}
	if word[0] == '0' && len(word) > 1 {
		return 0, api.ErrForm
	}
	// Of digits alone, what Atoi does not take is too long for an int.
	n, err := strconv.Atoi(word)
	if err != nil || n > mostNumber {
		return 0, api.ErrRange
	}
	return n, api.OK
}

// end is the partition of an end, which may be outside.
func end(to *int) field {
	const outside = "outside"
	f := number(to)
	return field{
		print: func() string {
			if *to == book.Outside {
				return outside
			}
			return f.print()
		},
		parse: func(word string) api.Errno {
			if word == outside {
				*to = book.Outside
				return api.OK
			}
			return f.parse(word)
		},
	}
}

// choice is one of some words, of which the value is the index.
func choice(to *int, words ...string) field {
	return field{
		print: func() string { return words[*to] },
		parse: func(word string) api.Errno {
			if *to = slices.Index(words, word); *to < 0 {
				return api.ErrForm
			}
			return api.OK
		},
	}
}

func level(to *int) field {
	return choice(to, "process", "part", "whole")
}

func action(to *int) field {
	return choice(to, "ignore", "tell", "stop", "restart", "warm", "cold", "halt")
}

// flag is one of two words, for false and for true.
func flag(to *bool, no, yes string) field {
	return field{
		print: func() string {
			if *to {
				return yes
			}
			return no
		},
		parse: func(word string) api.Errno {
			if *to = word == yes; !*to && word != no {
				return api.ErrForm
			}
			return api.OK
		},
	}
}

func order(to *bool) field { return flag(to, "fifo", "priority") }

// rights are the letters of those rights that an area has, in their order.
func rights(write, run, keep *bool) field {
	const letters, none = "wrk", "-"
	flags := []*bool{write, run, keep}
	return field{
		print: func() string {
			has := ""
			for i, to := range flags {
				if *to {
					has += letters[i : i+1]
				}
			}
			if has == "" {
				return none
			}
			return has
		},
		parse: func(word string) api.Errno {
			rest := word
			for i, to := range flags {
				rest, *to = strings.CutPrefix(rest, letters[i:i+1])
			}
			if rest != "" && word != none {
				return api.ErrForm
			}
			return api.OK
		},
	}
}
