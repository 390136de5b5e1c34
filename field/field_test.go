package field

import (
	"errors"
	"slices"
	"strings"
	"testing"

	"conduit/api"
)

var (
	longName  = strings.Repeat("n", api.MaxName)
	longValue = strings.Repeat("v", api.MaxValue)
)

// P6.1, P6.2: lines that are fields.
func TestParse(t *testing.T) {
	for line, want := range map[string]api.Pair{
		"A: b":                     {Name: "A", Value: "b"},
		"A:":                       {Name: "A"},
		"a-1: \t b c\td \t":        {Name: "a-1", Value: "b c\td"},
		"A::b:c":                   {Name: "A", Value: ":b:c"},
		"A: \x80\xff~":             {Name: "A", Value: "\x80\xff~"},
		longName + ":" + longValue: {Name: longName, Value: longValue},
		"A:" + longValue + "   ":   {Name: "A", Value: longValue},
	} {
		got, err := Parse(line)
		if got != want || err != nil || !Is(got) {
			t.Errorf("P6.1: %q: %v, %v", line, got, err)
		}
	}
}

// P6.1: lines that are none; what is ill-formed is told ahead of what is too long.
func TestParseErrors(t *testing.T) {
	for line, want := range map[string]error{
		"": api.ErrForm, "A": api.ErrForm, ":b": api.ErrForm, "A : b": api.ErrForm, " A: b": api.ErrForm, "A/: b": api.ErrForm,
		"A: b\r": api.ErrForm, "A: \x00": api.ErrForm, "A: b\x1fc": api.ErrForm, "A: \x7f": api.ErrForm, "A: b\nc": api.ErrForm,
		longName + "n: b": api.ErrLarge, "A: " + longValue + "v": api.ErrLarge,
		longName + "n: \x00": api.ErrForm, "A@: " + longValue + "v": api.ErrForm, longName + "n n: b": api.ErrForm,
	} {
		if got, err := Parse(line); got != (api.Pair{}) || !errors.Is(err, want) {
			t.Errorf("P6.1: %q: %v, %v", line, got, err)
		}
	}
}

// P6.1: what may be a field.
func TestIs(t *testing.T) {
	for i, c := range []struct {
		name, value string
		want        bool
	}{
		{"A", "", true}, {longName, longValue, true}, {"A", "b\tc d", true},
		{"", "b", false}, {"A b", "", false}, {longName + "n", "", false}, {"A", longValue + "v", false},
		{"A", " b", false}, {"A", "b\t", false}, {"A", " ", false}, {"A", "\r", false}, {"A", "b\x7f", false}, {"A", "\x0b", false},
	} {
		if Is(api.Pair{Name: c.name, Value: c.value}) != c.want {
			t.Errorf("P6.1: row %d", i)
		}
	}
}

// P6.1: fields by name, in small letters the same.
func TestByName(t *testing.T) {
	l := []api.Pair{{Name: "Accept", Value: "a, B"}, {Name: "X", Value: "1"}, {Name: "aCCEPT", Value: "c;q=1,, d e"}, {Name: "É", Value: "x"}}
	if got := Get(l, "ACCEPT"); !slices.Equal(got, []string{"a, B", "c;q=1,, d e"}) {
		t.Errorf("P6.1: Get: %q", got)
	}
	if Get(l, "Y") != nil || Get(nil, "X") != nil || Get(l, "é") != nil {
		t.Error("P6.1: Get of none")
	}
	for word, want := range map[string]bool{"a": true, "b": true, "A": true, "D E": true, "c": false, "": false, "a, B": false, " a": false} {
		if Has(l, "accept", word) != want {
			t.Errorf("P6.1: Has %q", word)
		}
	}
	before := slices.Clone(l)
	got := Drop(l, "accepT")
	if !slices.Equal(got, []api.Pair{{Name: "X", Value: "1"}, {Name: "É", Value: "x"}}) {
		t.Errorf("P6.1: Drop: %v", got)
	}
	all := Drop(l, "none")
	all[0].Name = "changed"
	if !slices.Equal(l, before) || len(Drop(nil, "x")) != 0 {
		t.Error("what was handed in is changed")
	}
}

// P6.1: fields as lines.
func TestLines(t *testing.T) {
	if got := Lines(api.Pair{Name: "A", Value: "b"}, api.Pair{Name: "C"}); got != "A: b\r\nC: \r\n" || Lines() != "" {
		t.Errorf("P6.1: Lines: %q", got)
	}
}
