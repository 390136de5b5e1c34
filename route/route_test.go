package route

import (
	"reflect"
	"testing"

	"conduit/api"
)

// P13.1: what a path is by one rule.
func TestMatch(t *testing.T) {
	type names = []api.Pair
	for _, c := range []struct {
		kind       int
		path, p    string
		want       bool
		script, in string
		names      names
	}{
		{api.RExact, "/a", "/a", true, "/a", "", nil}, {api.RExact, "/a", "/a/", false, "", "", nil}, {api.RExact, "/a", "/a/b", false, "", "", nil}, {api.RExact, "/", "/", true, "/", "", nil}, {api.RExact, "/a/", "/a/", true, "/a/", "", nil},
		{api.RSegs, "/u/:id", "/u/7", true, "/u/7", "", names{{Name: "id", Value: "7"}}}, {api.RSegs, "/u/:id", "/u/7/", true, "/u/7/", "", names{{Name: "id", Value: "7"}}}, {api.RSegs, "/:b/x/:a", "/1/x/2", true, "/1/x/2", "", names{{Name: "b", Value: "1"}, {Name: "a", Value: "2"}}},
		{api.RSegs, "/u/:id", "/u", false, "", "", nil}, {api.RSegs, "/u/:id", "/u/7/8", false, "", "", nil}, {api.RSegs, "/u/:id", "/v/7", false, "", "", nil}, {api.RSegs, "/u/x", "/u/x", true, "/u/x", "", nil}, {api.RSegs, "/", "/", true, "/", "", nil}, {api.RSegs, "/:a/:a", "/1/2", true, "/1/2", "", names{{Name: "a", Value: "1"}, {Name: "a", Value: "2"}}},
		{api.RSegs, "/:id/x", "/7/y", false, "", "", nil},
		{api.RPrefix, "/a", "/a/b", true, "/a", "/b", nil}, {api.RPrefix, "/a", "/a", true, "/a", "", nil}, {api.RPrefix, "/a", "/a/", true, "/a", "/", nil}, {api.RPrefix, "/a/", "/a/b/", true, "/a", "/b/", nil}, {api.RPrefix, "/a/", "/a", true, "/a", "", nil},
		{api.RPrefix, "/", "/", true, "", "/", nil}, {api.RPrefix, "/", "/a/b", true, "", "/a/b", nil}, {api.RPrefix, "/a", "/ab", false, "", "", nil}, {api.RPrefix, "/a/b", "/a", false, "", "", nil},
		{api.RExt, ".php", "/x.php", true, "/x.php", "", nil}, {api.RExt, ".php", "/a/x.php/i/y.php", true, "/a/x.php", "/i/y.php", nil}, {api.RExt, ".php", "/x.php/", true, "/x.php", "/", nil}, {api.RExt, ".php", "/.php", false, "", "", nil}, {api.RExt, ".php", "/.php/x.php", true, "/.php/x.php", "", nil},
		{api.RExt, ".php", "/x.phpx", false, "", "", nil}, {api.RExt, ".php", "/x.PHP", false, "", "", nil}, {api.RExt, ".php", "/", false, "", "", nil},
		{0, "/a", "/a", false, "", "", nil}, {5, "/a", "/a", false, "", "", nil},
	} {
		got, ok := Match(api.Rule{Kind: c.kind, Path: c.path}, c.p)
		want := api.Route{Script: c.script, Info: c.in, Names: c.names}
		if ok != c.want || !reflect.DeepEqual(got, want) {
			t.Errorf("P13.1: kind %d, %s, %s: %v, %v", c.kind, c.path, c.p, got, ok)
		}
	}
}

// All arguments: paths that aren't clean.
func TestMatchAnything(t *testing.T) {
	odd := []string{"", "a", "//", "//a//b", "/a", ":", "\x00", ".", "a/"}
	for kind := -1; kind < 6; kind++ {
		for _, a := range odd {
			for _, b := range odd {
				Match(api.Rule{Kind: kind, Path: a}, b)
				Choose([]api.Rule{{Kind: kind, Path: a}}, b, b)
			}
		}
	}
}

// P13.2, P13.3: which of several rules.
func TestChoose(t *testing.T) {
	l := []api.Rule{
		{Kind: api.RExt, Path: ".php"},                    // 0
		{Kind: api.RPrefix, Path: "/a"},                   // 1
		{Kind: api.RPrefix, Path: "/a/b"},                 // 2
		{Kind: api.RSegs, Path: "/:x/:y"},                 // 3
		{Kind: api.RSegs, Path: "/a/:y"},                  // 4
		{Kind: api.RExact, Path: "/a/b"},                  // 5
		{Kind: api.RPrefix, Path: "/a/b/"},                // 6
		{Kind: api.RSegs, Path: "/:x/b"},                  // 7
		{Kind: api.RExact, Path: "/a/b", Host: "h"},       // 8
		{Kind: api.RExt, Path: ".php", Host: "h"},         // 9
		{Kind: api.RExact, Path: "/a/b"},                  // 10
		{Kind: api.RSegs, Path: "/:x/:y/c/:z", Host: "i"}, // 11
		{Kind: api.RPrefix, Path: "/a/b/c", Host: "i"},    // 12
	}
	for _, c := range []struct {
		host, p string
		want    int // -1: none
	}{
		{"", "/a/b", 5}, {"x", "/a/b", 5}, {"H:80", "/a/b", 8}, {"h", "/a/c", 4}, {"h", "/x.php", 9}, {"h", "/a/x.php", 9}, {"", "/a/x.php", 4}, {"", "/c/b", 7}, {"", "/c/d", 3}, {"", "/a/b/c", 2}, {"", "/a/c/d", 1}, {"", "/a/b/c.php", 2},
		{"", "/x.php", 0}, {"", "/q/r/s.php", 0}, {"", "/q/r/s", -1}, {"h", "/q/r/s", -1}, {"", "/", -1}, {"i", "/a/b/c/d", 11}, {"i", "/a/b/c", 12}, {":80", "/a/b", 5},
	} {
		got, ok := Choose(l, c.host, c.p)
		if ok != (c.want >= 0) || ok && got.Rule != c.want || !ok && !reflect.DeepEqual(got, api.Route{}) {
			t.Errorf("P13.2: %q, %s: %v, %v", c.host, c.p, got, ok)
		}
	}
	got, _ := Choose(l, "", "/a/7")
	if want := (api.Route{Rule: 4, Script: "/a/7", Names: []api.Pair{{Name: "y", Value: "7"}}}); !reflect.DeepEqual(got, want) {
		t.Errorf("P13.2: %v", got)
	}
	if _, ok := Choose([]api.Rule{{Kind: api.RExact, Path: "/a", Host: "h"}}, "", "/a"); ok {
		t.Error("P13.2: a rule of another host")
	}
	if _, ok := Choose(nil, "", "/"); ok {
		t.Error("P13.3: no rules")
	}
}
