package ware

import (
	"errors"
	"fmt"
	"reflect"
	"testing"

	"conduit/api"
)

func request() api.Request {
	return api.Request{Method: "GET", Target: "/t", Minor: 1, Fields: []api.Pair{{Name: "A", Value: "1"}, {Name: "B", Value: "2"}, {Name: "a", Value: "3"}}, Body: "body"}
}

func route(script string) api.Route {
	return api.Route{Rule: 3, Script: script, Info: "/i", Names: []api.Pair{{Name: "n", Value: "v"}}}
}

// P14.1: each ware by itself.
func TestFields(t *testing.T) {
	for i, c := range []struct {
		wares  []api.Ware
		fields []api.Pair
	}{
		{nil, request().Fields},
		{[]api.Ware{{Kind: api.WAdd, A: "C", B: "4"}, {Kind: api.WAdd, A: "A", B: "5"}}, append(request().Fields, api.Pair{Name: "C", Value: "4"}, api.Pair{Name: "A", Value: "5"})},
		{[]api.Ware{{Kind: api.WDrop, A: "a"}}, []api.Pair{{Name: "B", Value: "2"}}},
		{[]api.Ware{{Kind: api.WDrop, A: "a"}, {Kind: api.WAdd, A: "a", B: "4"}}, []api.Pair{{Name: "B", Value: "2"}, {Name: "a", Value: "4"}}},
		{[]api.Ware{{Kind: api.WAdd, A: "a", B: "4"}, {Kind: api.WDrop, A: "A"}}, []api.Pair{{Name: "B", Value: "2"}}},
		{[]api.Ware{{Kind: 0, A: "A"}, {Kind: 6, A: "A"}}, request().Fields},
	} {
		want := request()
		want.Fields = c.fields
		r, u, err := Apply(c.wares, request(), route("/s"))
		if !reflect.DeepEqual(r, want) || !reflect.DeepEqual(u, route("/s")) || err != nil {
			t.Errorf("P14.1: row %d: %v, %v, %v", i, r, u, err)
		}
	}
}

// P14.1: rewriting takes whole segments, and leaves one slash between.
func TestRewrite(t *testing.T) {
	for _, c := range [][4]string{ // script, A, B, what comes of it
		{"/a/b", "/a", "/x", "/x/b"}, {"/a/b", "/a/", "/x/", "/x/b"}, {"/a", "/a", "/x/y", "/x/y"}, {"/a/", "/a", "/x", "/x/"}, {"/a", "/a/", "/x/", "/x"}, {"/ab", "/a", "/x", "/ab"}, {"/a", "/a/b", "/x", "/a"},
		{"/a/b", "/", "/x", "/x/a/b"}, {"", "/", "/x", "/x"}, {"/a/b", "/a", "/", "/b"}, {"/a", "/a", "/", ""}, {"/A/b", "/a", "/x", "/A/b"}, {"/", "/", "/x", "/x/"}, {"a", "///a", "/x", "/x"},
	} {
		_, u, err := Apply([]api.Ware{{Kind: api.WRewrite, A: c[1], B: c[2]}}, request(), route(c[0]))
		if want := route(c[3]); !reflect.DeepEqual(u, want) || err != nil {
			t.Errorf("P14.1: %q: %v, %v", c, u, err)
		}
	}
	_, u, _ := Apply([]api.Ware{{Kind: api.WRewrite, A: "/a", B: "/b"}, {Kind: api.WRewrite, A: "/b", B: "/c"}}, request(), route("/a/d"))
	if u.Script != "/c/d" {
		t.Errorf("P14.1: one by one: %v", u)
	}
}

// P14.1, P14.2: what is refused; the first error ends it, and all is as it was.
func TestRefused(t *testing.T) {
	add := api.Ware{Kind: api.WAdd, A: "C", B: "4"}
	for i, c := range []struct {
		wares []api.Ware
		want  error
	}{
		{[]api.Ware{{Kind: api.WMethods, A: "PUT, GET"}, {Kind: api.WLimit, N: 4}}, nil},
		{[]api.Ware{add, {Kind: api.WMethods, A: "PUT"}}, api.ErrMethod}, {[]api.Ware{{Kind: api.WMethods, A: "get"}}, api.ErrMethod}, {[]api.Ware{{Kind: api.WMethods}}, api.ErrMethod}, {[]api.Ware{{Kind: api.WMethods, A: "GETS,G"}}, api.ErrMethod},
		{[]api.Ware{add, {Kind: api.WRewrite, A: "/", B: "/x"}, {Kind: api.WLimit, N: 3}}, api.ErrLarge}, {[]api.Ware{{Kind: api.WLimit, N: -1}}, api.ErrLarge},
		{[]api.Ware{{Kind: api.WLimit, N: 3}, {Kind: api.WMethods, A: "PUT"}}, api.ErrLarge}, {[]api.Ware{{Kind: api.WMethods, A: "PUT"}, {Kind: api.WLimit, N: 3}}, api.ErrMethod},
	} {
		r, u, err := Apply(c.wares, request(), route("/s"))
		if !errors.Is(err, c.want) || !reflect.DeepEqual(r, request()) || !reflect.DeepEqual(u, route("/s")) {
			t.Errorf("P14.1: row %d: %v, %v, %v", i, r, u, err)
		}
	}
	empty := api.Request{Method: "GET"}
	if _, _, err := Apply([]api.Ware{{Kind: api.WLimit}}, empty, api.Route{}); err != nil {
		t.Errorf("P14.1: a limit of nothing, nothing: %v", err)
	}
}

// What is handed in isn't changed, its spare room neither; what is answered is new.
func TestMemory(t *testing.T) {
	for _, wares := range [][]api.Ware{nil, {{Kind: api.WAdd, A: "C"}}, {{Kind: api.WAdd, A: "C"}, {Kind: api.WLimit}}} {
		back := append(request().Fields, api.Pair{Name: "spare"})
		q, u := request(), route("/s")
		q.Fields = back[:3]
		r, v, _ := Apply(wares, q, u)
		r.Fields[0].Name, v.Names[0].Name = "changed", "changed"
		if back[3].Name != "spare" || back[0].Name != "A" || u.Names[0].Name != "n" {
			t.Errorf("memory is shared: %v, %v", back, u)
		}
	}
}

// P14.1: the status of an error.
func TestStatus(t *testing.T) {
	for e, want := range map[error]int{nil: 0, api.ErrMethod: 405, api.ErrLarge: 413, api.ErrForm: 500, api.OK: 500, errors.New("x"): 500} {
		if Status(e) != want || e != nil && Status(fmt.Errorf("wrapped: %w", e)) != want {
			t.Errorf("P14.1: Status %v: %d", e, Status(e))
		}
	}
}
