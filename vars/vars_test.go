package vars

import (
	"reflect"
	"slices"
	"testing"

	"conduit/api"
)

// P15.1: names of variables.
func TestName(t *testing.T) {
	for s, want := range map[string]string{"": "HTTP_", "Accept": "HTTP_ACCEPT", "x-A_b.9": "HTTP_X_A_B_9", "azAZ09/:@[`{": "HTTP_AZAZ09______", "\xe9[z{": "HTTP___Z_"} {
		if got := Name(s); got != want {
			t.Errorf("P15.1: Name %q: %q", s, got)
		}
	}
}

// base: the variables that are always there, by name.
func base() map[string]string {
	return map[string]string{
		"GATEWAY_INTERFACE": "CGI/1.1", "QUERY_STRING": "", "REMOTE_ADDR": "10.0.0.1", "REQUEST_METHOD": "GET", "REQUEST_URI": "/", "SCRIPT_NAME": "",
		"SERVER_NAME": "local", "SERVER_PORT": "80", "SERVER_PROTOCOL": "HTTP/1.0", "SERVER_SOFTWARE": "conduit",
	}
}

// P15.1, P15.2: what a script is told: more than the base, or otherwise.
func TestBuild(t *testing.T) {
	conf := api.Conf{Name: "local", Port: 80}
	type pairs = []api.Pair
	for i, c := range []struct {
		client int
		r      api.Request
		t      api.Route
		more   map[string]string
	}{
		{0, api.Request{Method: "GET", Target: "/"}, api.Route{}, nil},
		{3, api.Request{Method: "PUT", Target: "/a?b?c", Minor: 1, Body: "0123456789a"}, api.Route{Rule: 7, Script: "/s", Info: "/i"}, map[string]string{"REMOTE_ADDR": "10.0.0.4", "REQUEST_METHOD": "PUT", "REQUEST_URI": "/a?b?c", "QUERY_STRING": "b?c", "SERVER_PROTOCOL": "HTTP/1.1", "CONTENT_LENGTH": "11", "SCRIPT_NAME": "/s", "PATH_INFO": "/i"}},
		{0, api.Request{Method: "GET", Target: "/", Fields: pairs{{Name: "HOST", Value: "A.b:81"}, {Name: "host", Value: "c"}}}, api.Route{}, map[string]string{"SERVER_NAME": "a.b"}},
		{0, api.Request{Method: "GET", Target: "/", Fields: pairs{{Name: "Host", Value: "D"}}}, api.Route{}, map[string]string{"SERVER_NAME": "d"}},
		{0, api.Request{Method: "GET", Target: "/", Fields: pairs{{Name: "Host", Value: ":81"}, {Name: "Host", Value: "c"}}}, api.Route{}, nil},
		{0, api.Request{Method: "GET", Target: "/", Fields: pairs{{Name: "content-type", Value: "a"}, {Name: "Content-Type", Value: "b"}}}, api.Route{}, map[string]string{"CONTENT_TYPE": "a"}},
		{0, api.Request{Method: "GET", Target: "/", Fields: pairs{{Name: "Content-Type"}}}, api.Route{}, map[string]string{"CONTENT_TYPE": ""}},
		{0, api.Request{Method: "GET", Target: "/", Fields: pairs{{Name: "AUTHORIZATION", Value: "x"}, {Name: "connection", Value: "x"}, {Name: "Content-length", Value: "9"}, {Name: "proxy", Value: "x"}, {Name: "Transfer-Encoding", Value: "x"}, {Name: "Proxy-A", Value: "y"}}}, api.Route{}, map[string]string{"HTTP_PROXY_A": "y"}},
		{0, api.Request{Method: "GET", Target: "/", Fields: pairs{{Name: "X-a", Value: "1"}, {Name: "B"}, {Name: "x_A", Value: "2"}, {Name: "b"}, {Name: "X.a", Value: "1"}}}, api.Route{}, map[string]string{"HTTP_X_A": "1, 2, 1", "HTTP_B": ", "}},
		{0, api.Request{Method: "GET", Target: "/", Fields: pairs{{Name: "Cookie", Value: "a=1"}, {Name: "COOKIE", Value: "b=2"}, {Name: "Cookie2", Value: "c"}, {Name: "Cookie2", Value: "d"}}}, api.Route{}, map[string]string{"HTTP_COOKIE": "a=1; b=2", "HTTP_COOKIE2": "c, d"}},
		{0, api.Request{Method: "GET", Target: "/"}, api.Route{Names: pairs{{Name: "id", Value: "7"}, {Name: "a-b", Value: "8"}, {Name: "ID", Value: "9"}, {Name: "a_b", Value: "10"}}}, map[string]string{"ROUTE_ID": "7", "ROUTE_A_B": "8"}},
	} {
		want := base()
		for name, value := range c.more {
			want[name] = value
		}
		got := map[string]string{}
		l := Build(conf, c.client, c.r, c.t)
		for _, p := range l {
			got[p.Name] = p.Value
		}
		rising := slices.IsSortedFunc(l, func(a, b api.Pair) int {
			if a.Name < b.Name {
				return -1
			}
			return 1 // of like names too: each is above the one ahead
		})
		if !reflect.DeepEqual(got, want) || len(l) != len(want) || !rising {
			t.Errorf("P15.1: row %d: %v", i, l)
		}
	}
}

// P15.1: the fields' Content-Length isn't looked at, the body is; nothing handed in is changed.
func TestBody(t *testing.T) {
	r := api.Request{Target: "/", Fields: []api.Pair{{Name: "Z", Value: "z"}, {Name: "A", Value: "a"}, {Name: "z", Value: "y"}}, Body: "ab"}
	route := api.Route{Names: []api.Pair{{Name: "z", Value: "1"}, {Name: "a", Value: "2"}}}
	before := slices.Clone(r.Fields)
	l := Build(api.Conf{}, 0, r, route)
	if i := slices.IndexFunc(l, func(p api.Pair) bool { return p.Name == "CONTENT_LENGTH" }); i < 0 || l[i].Value != "2" {
		t.Errorf("P15.1: %v", l)
	}
	if !slices.Equal(r.Fields, before) || route.Names[0].Name != "z" {
		t.Error("what was handed in is changed")
	}
}
