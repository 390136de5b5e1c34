// Package octet: tokens, numbers, percent signs: see doc/01-octet.md.
package octet

import (
	"errors"
	"strings"

	"conduit/api"
	"conduit/fault"
)

// Token tells whether s is a word as methods and fields' names are.
func Token(s string) bool {
	for i := range len(s) {
		if !alnum(s[i]) && strings.IndexByte("!#$%&'*+-.^_`|~", s[i]) < 0 {
			return false
		}
	}
	return s != ""
}

// Lower makes the letters A to Z small, and leaves every other byte.
func Lower(s string) string {
	out := []byte(s)
	for i, b := range out {
		if b >= 'A' && b <= 'Z' {
			out[i] = b + 'a' - 'A'
		}
	}
	return string(out)
}

// Trim takes blanks and tabs off both ends.
func Trim(s string) string { return strings.Trim(s, " \t") }

// Dec reads a number of one to nine decimal digits.
func Dec(s string) (int, bool) { return number(s, 10, 9) }

// Hex reads a number of one to seven digits of base 16.
func Hex(s string) (int, bool) { return number(s, 16, 7) }

func number(s string, base, most int) (int, bool) {
	if s == "" || len(s) > most {
		return 0, false
	}
	n := 0
	for i := range len(s) {
		d := digit(s[i])
		if d >= base {
			return 0, false
		}
		n = n*base + d
	}
	return n, true
}

// digit: what a digit tells; 16 of a byte that is none, which no base has.
func digit(b byte) int {
	switch {
	case b >= 'A' && b <= 'F':
		b += 'a' - 'A'
		fallthrough
	case b >= 'a' && b <= 'f':
		return int(b-'a') + 10
	case b >= '0' && b <= '9':
		return int(b - '0')
	}
	return 16
}

func alnum(b byte) bool {
	return b >= 'a' && b <= 'z' || b >= 'A' && b <= 'Z' || b >= '0' && b <= '9'
}

// Unescape makes of each percent sign and two digits the byte that they tell.
func Unescape(s string) (string, error) {
	var out strings.Builder
	for s != "" {
		b, n, err := first(s)
		if errors.Is(err, api.ErrForm) {
			return "", err
		}
		out.WriteByte(b)
		s = s[n:]
	}
	return out.String(), nil
}

// first: the byte that the front of s tells, and how many bytes tell it.
func first(s string) (byte, int, error) {
	if s[0] != '%' {
		return s[0], 1, nil
	}
	if len(s) < 3 {
		return 0, 0, fault.Of(api.ErrForm, "a percent sign without two digits")
	}
	switch n, ok := Hex(s[1:3]); {
	case !ok:
		return 0, 0, fault.Of(api.ErrForm, "a percent sign without two digits")
	case n == 0:
		return 0, 0, fault.Of(api.ErrForm, "a percent sign that tells byte 0")
	default:
		return byte(n), 3, nil
	}
}

// Escape makes of each byte that isn't plain a percent sign and two digits.
func Escape(s string) string {
	const digits = "0123456789ABCDEF"
	var out strings.Builder
	for i := range len(s) {
		b := s[i]
		if alnum(b) || strings.IndexByte("-._~/", b) >= 0 {
			out.WriteByte(b)
		} else {
			out.WriteString("%" + digits[b>>4:b>>4+1] + digits[b&15:b&15+1])
		}
	}
	return out.String()
}

// List: what commas part, without what is empty.
func List(s string) []string {
	var out []string
	for part := range strings.SplitSeq(s, ",") {
		if part = Trim(part); part != "" {
			out = append(out, part)
		}
	}
	return out
}
