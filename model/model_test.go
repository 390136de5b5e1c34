package model

import (
	"reflect"
	"slices"
	"strings"
	"testing"

	"conduit/api"
	"conduit/conf"
	"conduit/gate"
	"conduit/pair"
	"conduit/reply"
	"conduit/request"
	"conduit/vars"
)

func some() api.Conf {
	c := conf.Small()
	c.Backends, c.Head, c.Body = 2, 500, 10
	c.Rules = []api.Rule{
		{Kind: api.RPrefix, Path: "/app"}, {Kind: api.RExt, Path: ".php", Backend: 1},
		{Kind: api.RExact, Path: "/only", Wares: []api.Ware{{Kind: api.WMethods, A: "GET"}, {Kind: api.WLimit, N: 2}, {Kind: api.WAdd, A: "X", B: "y"}, {Kind: api.WRewrite, A: "/only", B: "/new"}}},
		{Kind: api.RSegs, Path: "/u/:id", Host: "h", Backend: 1},
	}
	return c
}

// P25.1: variables, backend, status of what goes by a rule, and of what doesn't.
func TestVars(t *testing.T) {
	host := func(h string) []api.Pair { return []api.Pair{{Name: "hOST", Value: h}, {Name: "Host", Value: "x"}} }
	for i, c := range []struct {
		r       api.Request
		route   api.Route
		more    []api.Pair // fields that wares added
		backend int
		status  int
	}{
		{r: api.Request{Method: "GET", Target: "/app/x?q"}, route: api.Route{Script: "/app", Info: "/x"}},
		{r: api.Request{Method: "PUT", Target: "/a.php", Minor: 1, Fields: host("a"), Body: "b"}, route: api.Route{Script: "/a.php"}, backend: 1},
		{r: api.Request{Method: "GET", Target: "/u/7", Fields: host("H:80")}, route: api.Route{Script: "/u/7", Names: []api.Pair{{Name: "id", Value: "7"}}}, backend: 1},
		{r: api.Request{Method: "GET", Target: "/only", Body: "ab"}, route: api.Route{Script: "/new"}, more: []api.Pair{{Name: "X", Value: "y"}}},
		{r: api.Request{Method: "GET", Target: "/u/7"}, backend: -1, status: 404}, {r: api.Request{Method: "GET", Target: "/u/7", Fields: []api.Pair{{Name: "Hoſt", Value: "h"}}}, backend: -1, status: 404},
		{r: api.Request{Method: "PUT", Target: "/only"}, backend: -1, status: 405}, {r: api.Request{Method: "GET", Target: "/only", Body: "abc"}, backend: -1, status: 413},
		{r: api.Request{Method: "OPTIONS", Target: "*"}, backend: -1, status: 400}, {r: api.Request{Method: "GET", Target: "/%zz"}, backend: -1, status: 400}, {r: api.Request{}, backend: -1, status: 400},
	} {
		for _, client := range []int{0, 3} {
			l, backend, status := Vars(some(), client, c.r)
			var want []api.Pair
			if c.status == 0 {
				q := c.r
				q.Fields = append(slices.Clone(q.Fields), c.more...)
				want = vars.Build(some(), client, q, c.route)
			}
			if !slices.Equal(l, want) || backend != c.backend || status != c.status {
				t.Errorf("P25.1: row %d: %v, %d, %d", i, l, backend, status)
			}
		}
	}
	if l, backend, status := Vars(api.Conf{Port: 7}, 0, api.Request{Target: "/any"}); len(l) == 0 || backend != 0 || status != 0 {
		t.Errorf("P25.1: a configuration that may not be: %v, %d, %d", l, backend, status)
	}
}

// P25.1: what a client is told of what a script says.
func TestWhole(t *testing.T) {
	const typed = "Content-Type: a\n\n"
	get := api.Request{Method: "GET", Target: "/", Minor: 1}
	h := api.Head{Status: 200, Reason: "OK", Fields: []api.Pair{{Name: "Content-Type", Value: "a"}}}
	head := reply.Head(get, h, true)
	for i, c := range []struct {
		r    api.Request
		outs []string
		want string
	}{
		{get, []string{typed}, head + "0\r\n\r\n"}, {get, []string{typed + "ab", "", "c"}, head + "2\r\nab\r\n1\r\nc\r\n0\r\n\r\n"}, {get, []string{"Content", "", "-Type: a\n\na", "b"}, head + "1\r\na\r\n1\r\nb\r\n0\r\n\r\n"},
		{get, nil, reply.Plain(get, 502, true)}, {get, []string{""}, reply.Plain(get, 502, true)}, {get, []string{"Content-Type: a\n"}, reply.Plain(get, 502, true)}, {get, []string{"x\n", typed, "more"}, reply.Plain(get, 502, true)},
		{get, []string{"X: " + strings.Repeat("x", 498), typed}, reply.Plain(get, 502, true)},
		{api.Request{Method: "GET"}, []string{typed, "a", "b"}, "HTTP/1.1 200 OK\r\nContent-Type: a\r\nConnection: close\r\n\r\nab"},
		{api.Request{Method: "HEAD", Minor: 1}, []string{"Status: 404\n\nlost"}, "HTTP/1.1 404 Not Found\r\nConnection: keep-alive\r\n\r\n"},
	} {
		if got := Whole(some(), c.r, c.outs...); got != c.want {
			t.Errorf("P25.1: row %d: %q", i, got)
		}
	}
}

// P25.1: a refusal, by the request's Keep.
func TestRefused(t *testing.T) {
	for _, r := range []api.Request{{Method: "GET", Minor: 1}, {Method: "HEAD"}, {Minor: 1, Fields: []api.Pair{{Name: "connection", Value: "CLOSE"}}}} {
		if got := Refused(r, 405); got != reply.Plain(r, 405, request.Keep(r)) {
			t.Errorf("P25.1: %q", got)
		}
	}
}

// P25.1: requests one behind the other.
func TestRequests(t *testing.T) {
	const one, zero = "GET /1 HTTP/1.1\r\nHost: a\r\n\r\n", "GET /0 HTTP/1.0\r\n\r\n"
	for s, want := range map[string]struct {
		targets string
		status  int
	}{
		"": {"", 0}, one: {"/1", 0}, one + one: {"/1/1", 0}, one + one[:5]: {"/1", 0}, zero + one: {"/0", 0}, one + zero + "\n": {"/1/0", 0}, one + "\r\n" + one: {"/1/1", 0},
		"\n": {"", 400}, one + "\n": {"/1", 400}, one + one + "GET / HTTP/2.0\r\n" + one: {"/1/1", 505}, strings.Repeat("x", 501): {"", 431}, "PUT /p HTTP/1.0\r\nContent-Length: 11\r\n\r\n": {"", 413},
		"PUT /p HTTP/1.1\r\nHost:\r\nContent-Length: 2\r\n\r\nab" + one: {"/p/1", 0}, "PUT /p HTTP/1.0\r\nTransfer-Encoding: x\r\n\r\n": {"", 501},
	} {
		l, status := Requests(some(), s)
		targets := ""
		for _, r := range l {
			targets += r.Target
		}
		if targets != want.targets || status != want.status {
			t.Errorf("P25.1: %.40q: %v, %d", s, l, status)
		}
	}
}

// P25.1: a configuration that may not be is the small one.
func TestHeld(t *testing.T) {
	s := "GET / HTTP/1.0\r\nX: " + strings.Repeat("x", 500) + "\r\n\r\n"
	if l, status := Requests(api.Conf{Head: 9}, s); len(l) != 1 || status != 0 {
		t.Errorf("P25.1: %v, %d", l, status)
	}
	r := api.Request{Method: "GET", Target: "/"}
	if got := Whole(api.Conf{Head: 9}, r, "Content-Type: a\n\n"); !strings.Contains(got, " 200 ") {
		t.Errorf("P25.1: %q", got)
	}
}

// P25.2: what the gate makes of requests is what the model says.
func TestAsTheGate(t *testing.T) {
	for _, s := range []string{"GET /app/x HTTP/1.1\r\nHost: a\r\nX: y\r\n\r\n", "PUT /only HTTP/1.1\r\nHost: a\r\n\r\n", "GET /u/1 HTTP/1.1\r\nHost: h\r\n\r\n", "GET /none HTTP/1.0\r\n\r\n", "HEAD /x.php/i HTTP/1.0\r\nConnection: keep-alive\r\n\r\n"} {
		g := gate.New(some())
		g.Do(api.Act{Kind: api.AConnect, Who: 1})
		g.Do(api.Act{Kind: api.AFeed, Who: 1, Data: s})
		l, _ := Requests(some(), s)
		if told := g.Told(); len(told) != 1 || len(l) != 1 || !reflect.DeepEqual(told[0].Request, l[0]) {
			t.Fatalf("P25.2: %q: %v, %v", s, told, l)
		}
		v, backend, status := Vars(some(), 1, l[0])
		if status != 0 {
			if _, got, _ := g.Do(api.Act{Kind: api.ADrain, Who: 1, N: 1000}); got != Refused(l[0], status) {
				t.Errorf("P25.2: %q: %q", s, got)
			}
			continue
		}
		_, said, _ := g.Do(api.Act{Kind: api.BDrain, Who: 1, N: 10000})
		if !strings.Contains(said, pair.Bytes(v...)) || g.Pool().Backend(1) != backend {
			t.Errorf("P25.2: %q: %v, %d", s, v, backend)
		}
	}
}
