package answer

import (
	"errors"
	"strings"
	"testing"

	"conduit/api"
	"conduit/reply"
)

const head = "Status: 201 Made\nX: y\n\n"

func get(method string, minor int, connection string) api.Request {
	r := api.Request{Method: method, Target: "/", Minor: minor}
	if connection != "" {
		r.Fields = []api.Pair{{Name: "Connection", Value: connection}}
	}
	return r
}

var made = api.Head{Status: 201, Reason: "Made", Fields: []api.Pair{{Name: "X", Value: "y"}}}

// P22.1: heads, parts and the end, each told as soon as it is there; whether the connection goes on.
func TestAnswer(t *testing.T) {
	for i, c := range []struct {
		r    api.Request
		stop bool
		keep bool // as the head says
		goes bool
	}{
		{get("GET", 1, ""), false, true, true}, {get("GET", 1, ""), true, false, false}, {get("GET", 1, "close"), false, false, false}, {get("GET", 0, "keep-alive"), false, true, false}, {get("GET", 0, ""), false, false, false},
		{get("HEAD", 0, "keep-alive"), false, true, true}, {get("HEAD", 0, "keep-alive"), true, false, false}, {get("HEAD", 1, ""), false, true, true}, {get("HEAD", 0, ""), false, false, false},
	} {
		a := New(c.r, len(head), c.stop)
		for j := range len(head) {
			want := ""
			if j == len(head)-1 {
				want = reply.Head(c.r, made, c.keep)
			}
			if a.Begun() || a.Status() != 0 {
				t.Errorf("P22.1: row %d, byte %d: begun", i, j)
			}
			if got, err := a.Out(head[j : j+1]); got != want || err != nil {
				t.Errorf("P22.1: row %d, byte %d: %q, %v", i, j, got, err)
			}
		}
		for _, s := range []string{"body", "", "\n\n"} {
			if got, err := a.Out(s); got != reply.Part(c.r, made, s) || err != nil {
				t.Errorf("P22.1: row %d: %q, %v", i, got, err)
			}
		}
		if !a.Begun() || a.Status() != 201 || a.Keeps() != c.goes {
			t.Errorf("P22.1: row %d: %v, %d, %v", i, a.Begun(), a.Status(), a.Keeps())
		}
		if got, ok := a.End(); got != reply.End(c.r, made) || !ok {
			t.Errorf("P22.1: row %d: %q, %v", i, got, ok)
		}
		over(t, a, 201)
		whole := New(c.r, len(head), c.stop)
		if got, err := whole.Out(head + "body"); got != reply.Head(c.r, made, c.keep)+reply.Part(c.r, made, "body") || err != nil {
			t.Errorf("P22.1: row %d: %q, %v", i, got, err)
		}
	}
}

// over: nothing more, whatever is asked.
func over(t *testing.T, a *Answer, status int) {
	t.Helper()
	for range 2 {
		if got, ok := a.End(); got != "" || !ok {
			t.Errorf("P22.2: End once more: %q, %v", got, ok)
		}
		if got, ok := a.Fail(504); got != "" || ok {
			t.Errorf("P22.2: Fail once more: %q, %v", got, ok)
		}
		if got, err := a.Out(head); got != "" || !errors.Is(err, api.ErrBreach) {
			t.Errorf("P22.2: Out once more: %q, %v", got, err)
		}
	}
	if a.Status() != status {
		t.Errorf("P22.2: Status %d, not %d", a.Status(), status)
	}
}

// P22.1: a failure ahead of a head is told, behind it nothing is.
func TestFail(t *testing.T) {
	for _, r := range []api.Request{get("GET", 1, ""), get("GET", 1, "close"), get("HEAD", 0, "keep-alive"), get("GET", 0, "keep-alive")} {
		keep := r.Minor == 1 && len(r.Fields) == 0 || r.Minor == 0
		for _, first := range []string{"", "Status: 201\n"} {
			for _, stop := range []bool{false, true} {
				a := New(r, 100, stop)
				a.Out(first)
				if got, ok := a.Fail(504); got != reply.Plain(r, 504, keep && !stop) || !ok || a.Begun() || a.Keeps() != (keep && !stop) {
					t.Errorf("P22.1: Fail: %q, %v", got, ok)
				}
				over(t, a, 504)
				a = New(r, 100, stop)
				a.Out(first)
				if got, ok := a.End(); got != reply.Plain(r, 502, keep && !stop) || !ok || a.Begun() {
					t.Errorf("P22.1: End ahead of a head: %q, %v", got, ok)
				}
				over(t, a, 502)
			}
		}
		a := New(r, 100, false)
		a.Out(head + "body")
		if got, ok := a.Fail(504); got != "" || ok || !a.Begun() {
			t.Errorf("P22.1: Fail behind a head: %q, %v", got, ok)
		}
		over(t, a, 201)
	}
}

// P22.1: a head that may not be: cgi's errors, and then a failure may be told still.
func TestOutErrors(t *testing.T) {
	for s, want := range map[string]error{"X\n": api.ErrForm, "\n": api.ErrForm, head + "x": nil, strings.Repeat("x", 101): api.ErrLarge} {
		a := New(get("GET", 1, ""), 100, false)
		if got, err := a.Out(s); !errors.Is(err, want) || want != nil && got != "" {
			t.Errorf("P22.1: %q: %q, %v", s, got, err)
		}
		if want == nil {
			continue
		}
		if got, err := a.Out(head); got != "" || !errors.Is(err, api.ErrBreach) || a.Begun() {
			t.Errorf("P22.1: %q, dead: %q, %v", s, got, err)
		}
		if got, ok := a.Fail(502); got != reply.Plain(get("GET", 1, ""), 502, true) || !ok {
			t.Errorf("P22.1: %q, Fail: %q, %v", s, got, ok)
		}
	}
	if _, err := New(get("GET", 1, ""), len(head)-1, false).Out(head); !errors.Is(err, api.ErrLarge) {
		t.Errorf("P22.1: a head above most: %v", err)
	}
}

// P22.1: what has no body, by its status: a part that comes with the head, or behind it, isn't told.
func TestBare(t *testing.T) {
	for _, status := range []string{"204", "304"} {
		for _, r := range []api.Request{get("GET", 0, "keep-alive"), get("GET", 1, ""), get("HEAD", 1, "")} {
			a := New(r, 100, false)
			got, err := a.Out("Status: " + status + "\n\nlost")
			more, _ := a.Out("lost")
			end, ok := a.End()
			want := "HTTP/1.1 " + status + " " + reply.Reason(a.Status()) + "\r\nConnection: keep-alive\r\n\r\n"
			if got != want || more != "" || end != "" || err != nil || !ok || !a.Keeps() {
				t.Errorf("P22.1: %q, %q, %q, %v, %v", got, more, end, err, a.Keeps())
			}
		}
	}
}
