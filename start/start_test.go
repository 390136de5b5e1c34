package start

import (
	"errors"
	"reflect"
	"strings"
	"testing"

	"conduit/api"
)

var (
	longMethod = strings.Repeat("M", 16)
	longTarget = "/" + strings.Repeat("t", api.MaxTarget-1)
)

// P7.1, P7.2: request lines, there and back.
func TestParse(t *testing.T) {
	for line, want := range map[string]api.Request{
		"GET / HTTP/1.1":                            {Method: "GET", Target: "/", Minor: 1},
		"get /a?b=c?d HTTP/1.0":                     {Method: "get", Target: "/a?b=c?d"},
		"OPTIONS * HTTP/1.1":                        {Method: "OPTIONS", Target: "*", Minor: 1},
		"OPTIONS /* HTTP/1.0":                       {Method: "OPTIONS", Target: "/*"},
		"X!~ /!~\"%zz HTTP/1.1":                     {Method: "X!~", Target: "/!~\"%zz", Minor: 1},
		longMethod + " " + longTarget + " HTTP/1.1": {Method: longMethod, Target: longTarget, Minor: 1},
	} {
		got, err := Parse(line)
		if !reflect.DeepEqual(got, want) || err != nil || Print(got) != line {
			t.Errorf("P7.1: %q: %v, %v", line, got, err)
		}
	}
	if got := Print(api.Request{Method: "A", Target: "b", Minor: 12}); got != "A b HTTP/1.12" {
		t.Errorf("P7.1: Print: %q", got)
	}
}

// P7.1: wrong lines.
func TestParseErrors(t *testing.T) {
	for line, want := range map[string]error{
		"": api.ErrForm, "GET": api.ErrForm, "GET /": api.ErrForm, "GET  / HTTP/1.1": api.ErrForm, "GET / HTTP/1.1 ": api.ErrForm, " GET / HTTP/1.1": api.ErrForm,
		"GET\t/\tHTTP/1.1": api.ErrForm, "G@T / HTTP/1.1": api.ErrForm, " / HTTP/1.1": api.ErrForm, longMethod + "M / HTTP/1.1": api.ErrForm,
		"GET / ": api.ErrForm, "GET / http/1.1": api.ErrForm, "GET / HTTP": api.ErrForm, "GET / XHTTP/1.1": api.ErrForm,
		"GET / HTTP/": api.ErrVersion, "GET / HTTP/1": api.ErrVersion, "GET / HTTP/1.2": api.ErrVersion, "GET / HTTP/1.10": api.ErrVersion, "GET / HTTP/2.0": api.ErrVersion, "GET / HTTP/1.1\r": api.ErrVersion, "GET / HTTP/01.1": api.ErrVersion,
		"GET  HTTP/1.1": api.ErrForm, "GET a HTTP/1.1": api.ErrForm, "GET * HTTP/1.1": api.ErrForm, "options * HTTP/1.1": api.ErrForm, "OPTIONS *a HTTP/1.1": api.ErrForm, "OPTIONS ** HTTP/1.1": api.ErrForm,
		"GET http://a/ HTTP/1.1": api.ErrForm, "GET /# HTTP/1.1": api.ErrForm, "GET /\x1f HTTP/1.1": api.ErrForm, "GET /\x7f HTTP/1.1": api.ErrForm, "GET /\xc3 HTTP/1.1": api.ErrForm,
		"GET " + longTarget + "t HTTP/1.1": api.ErrLarge,
	} {
		var no api.Errno
		if got, err := Parse(line); !reflect.DeepEqual(got, api.Request{}) || !errors.As(err, &no) || no != want {
			t.Errorf("P7.1: %q: %v, %v", line, got, err)
		}
	}
}

// P7.1: of several errors the first one.
func TestErrorsOrder(t *testing.T) {
	for line, want := range map[string]error{
		"G@T a HTTP/2.0": api.ErrForm, "G@T / HTTP/2.0": api.ErrForm, "GET " + longTarget + "t HTTX/1.1": api.ErrForm,
		"GET a HTTP/2.0": api.ErrVersion, "GET " + longTarget + "t HTTP/2.0": api.ErrVersion,
		"GET " + longTarget + "# HTTP/1.1": api.ErrForm, "GET x" + longTarget + " HTTP/1.1": api.ErrForm,
	} {
		if _, err := Parse(line); !errors.Is(err, want) {
			t.Errorf("P7.1: %q: %v", line, err)
		}
	}
}

// P7.1: path and query.
func TestSplit(t *testing.T) {
	for target, want := range map[string][2]string{"": {}, "/a": {"/a", ""}, "/a?": {"/a", ""}, "/a?b?c": {"/a", "b?c"}, "?b": {"", "b"}, "*": {"*", ""}} {
		if path, query := Split(target); path != want[0] || query != want[1] {
			t.Errorf("P7.1: Split %q: %q, %q", target, path, query)
		}
	}
}
