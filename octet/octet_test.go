package octet

import (
	"errors"
	"slices"
	"strings"
	"testing"

	"conduit/api"
)

// P1.1: a token is one byte at least, of the named bytes alone.
func TestToken(t *testing.T) {
	const plain = "!#$%&'*+-.^_`|~0123456789abcdefghijklmnopqrstuvwxyzABCDEFGHIJKLMNOPQRSTUVWXYZ"
	for i := range 256 {
		s := string([]byte{byte(i)})
		if want := strings.Contains(plain, s) && i < 128; Token(s) != want || Token("a"+s+"b") != want {
			t.Errorf("P1.1: byte %d: %v", i, Token(s))
		}
	}
	if Token("") || !Token(plain) {
		t.Error("P1.1: the empty one, the whole one")
	}
}

// P1.1: only A to Z are made small, only blanks and tabs are taken off.
func TestLowerTrim(t *testing.T) {
	for s, want := range map[string]string{"": "", "AZaz@[`{": "azaz@[`{", "\xc4\xff09Q": "\xc4\xff09q", "É": "É"} {
		if got := Lower(s); got != want {
			t.Errorf("P1.1: Lower %q: %q", s, got)
		}
	}
	for s, want := range map[string]string{"": "", " ": "", " \t a b\t ": "a b", "\ra\n": "\ra\n", "\u00a0a": "\u00a0a"} {
		if got := Trim(s); got != want {
			t.Errorf("P1.1: Trim %q: %q", s, got)
		}
	}
}

// P1.1: numbers, at their lengths' edges.
func TestNumbers(t *testing.T) {
	for _, c := range []struct {
		s        string
		dec, hex int
	}{
		{"", -1, -1}, {"0", 0, 0}, {"9", 9, 9}, {"a", -1, 10}, {"F", -1, 15}, {"g", -1, -1}, {"G", -1, -1},
		{"999999999", 999999999, -1}, {"0000000000", -1, -1}, {"0000000", 0, 0}, {"00000000", 0, -1},
		{"fFfFfFf", -1, 0xfffffff}, {"-1", -1, -1}, {"+1", -1, -1}, {" 1", -1, -1}, {"1\n", -1, -1}, {"1_1", -1, -1}, {"/", -1, -1}, {":", -1, -1}, {"@", -1, -1}, {"`", -1, -1},
	} {
		n, ok := Dec(c.s)
		if ok != (c.dec >= 0) || n != max(c.dec, 0) {
			t.Errorf("P1.1: Dec %q: %d, %v", c.s, n, ok)
		}
		n, ok = Hex(c.s)
		if ok != (c.hex >= 0) || n != max(c.hex, 0) {
			t.Errorf("P1.1: Hex %q: %d, %v", c.s, n, ok)
		}
	}
}

// P1.1: lists.
func TestList(t *testing.T) {
	for s, want := range map[string][]string{"": nil, ", ,\t,": nil, "a": {"a"}, " a b ,,\tc": {"a b", "c"}, "a;b": {"a;b"}} {
		if got := List(s); !slices.Equal(got, want) {
			t.Errorf("P1.1: List %q: %q", s, got)
		}
	}
}

// P1.2: percent signs, right ones and wrong ones.
func TestUnescape(t *testing.T) {
	for s, want := range map[string]string{"": "", "a+b": "a+b", "%41%7e": "A~", "%fF%01": "\xff\x01", "%2541": "%41", "\x00": "\x00"} {
		if got, err := Unescape(s); got != want || err != nil {
			t.Errorf("P1.2: Unescape %q: %q, %v", s, got, err)
		}
	}
	for _, s := range []string{"%", "a%4", "%4", "%4g", "%g4", "%00", "ab%00", "%%41", "% 1", "%+1"} {
		if got, err := Unescape(s); got != "" || !errors.Is(err, api.ErrForm) {
			t.Errorf("P1.2: Unescape %q: %q, %v", s, got, err)
		}
	}
}

// P1.2, P1.3: what is escaped comes back, and what is plain stays.
func TestEscape(t *testing.T) {
	for i := range 256 {
		s := string([]byte{byte(i)})
		plain := i < 128 && (Token(s) && !strings.Contains("!#$%&'*+^`|", s) || s == "/")
		want := "%" + strings.ToUpper(string("0123456789abcdef"[i/16])+string("0123456789abcdef"[i%16]))
		if plain {
			want = s
		}
		got := Escape("a" + s)
		if got != "a"+want {
			t.Errorf("P1.2: Escape of byte %d: %q", i, got)
		}
		if back, err := Unescape(got); i > 0 && (back != "a"+s || err != nil) {
			t.Errorf("P1.3: byte %d comes back as %q, %v", i, back, err)
		}
	}
}
