package rule

import (
	"errors"
	"strings"
	"testing"

	"conduit/api"
)

func check(t *testing.T, what string, err error, want bool) {
	t.Helper()
	if (err == nil) != want || !want && !errors.Is(err, api.ErrConf) {
		t.Errorf("P12.1: %.60s: %v", what, err)
	}
}

// P12.1, P12.2: paths by the rule's kind.
func TestPaths(t *testing.T) {
	eight, nine := strings.Repeat("/s", 8), strings.Repeat("/s", 9)
	for _, c := range []struct {
		path             string
		exact, segs, ext bool // prefix: as exact
	}{
		{"/", true, true, false}, {"/a", true, true, false}, {"/a/", true, true, false}, {"/a b%/\xff", true, true, false}, {eight, true, true, false}, {eight + "/", true, true, false}, {nine, true, false, false},
		{"/u/:id", true, true, false}, {"/:a/:b!", true, true, false}, {"/:", true, false, false}, {"/u/:a b", true, false, false}, {"/:a:b", true, false, false}, {"/a:", true, true, false},
		{"", false, false, false}, {"a", false, false, false}, {"//", false, false, false}, {"/a//b", false, false, false}, {"/./a", false, false, false}, {"/a/..", false, false, false}, {"/a/../b", false, false, false}, {"/a\n", false, false, false}, {"/\x7f", false, false, false}, {"/\x00", false, false, false},
		{".php", false, false, true}, {".a", false, false, true}, {".abcdefgh", false, false, true}, {".abcdefghi", false, false, false}, {".", false, false, false}, {"php", false, false, false}, {".Php", false, false, false}, {".ph1", false, false, false}, {"..php", false, false, false}, {".a.b", false, false, false},
	} {
		check(t, "exact "+c.path, Is(api.Rule{Kind: api.RExact, Path: c.path}, 1), c.exact)
		check(t, "prefix "+c.path, Is(api.Rule{Kind: api.RPrefix, Path: c.path}, 1), c.exact)
		check(t, "segs "+c.path, Is(api.Rule{Kind: api.RSegs, Path: c.path}, 1), c.segs)
		check(t, "ext "+c.path, Is(api.Rule{Kind: api.RExt, Path: c.path}, 1), c.ext)
		for _, kind := range []int{0, -1, 5} {
			check(t, "no kind", Is(api.Rule{Kind: kind, Path: c.path}, 1), false)
		}
	}
}

// P12.1: backends, hosts, how many wares, wrong ones among them.
func TestIs(t *testing.T) {
	for _, c := range []struct {
		backend, backends int
		want              bool
	}{{0, 1, true}, {1, 2, true}, {1, 1, false}, {-1, 1, false}, {0, 0, false}, {0, -1, false}} {
		check(t, "backend", Is(api.Rule{Kind: api.RExact, Path: "/", Backend: c.backend}, c.backends), c.want)
	}
	long := strings.Repeat("h", api.MaxName)
	for host, want := range map[string]bool{"": true, "a-z.09": true, long: true, long + "h": false, "A": false, "a:80": false, "a_b": false, "a ": false, "\xe9": false, "/": false} {
		check(t, "host "+host, Is(api.Rule{Kind: api.RExact, Path: "/", Host: host}, 1), want)
	}
	wares := make([]api.Ware, api.MaxWares)
	for i := range wares {
		wares[i] = api.Ware{Kind: api.WLimit}
	}
	check(t, "as many wares", Is(api.Rule{Kind: api.RExact, Path: "/", Wares: wares}, 1), true)
	check(t, "one ware more", Is(api.Rule{Kind: api.RExact, Path: "/", Wares: append(wares, wares[0])}, 1), false)
	wares[7].N = -1
	check(t, "a wrong ware", Is(api.Rule{Kind: api.RExact, Path: "/", Wares: wares}, 1), false)
}

// P12.1: wares.
func TestWare(t *testing.T) {
	m, name, value := strings.Repeat("M", 16), strings.Repeat("n", api.MaxName), strings.Repeat("v", api.MaxValue)
	line := "GET" + strings.Repeat(",", api.MaxLine-3)
	for i, c := range []struct {
		w    api.Ware
		want bool
	}{
		{api.Ware{Kind: api.WMethods, A: "GET"}, true}, {api.Ware{Kind: api.WMethods, A: " GET ,, x!," + m, N: -1}, true}, {api.Ware{Kind: api.WMethods, A: line}, true},
		{api.Ware{Kind: api.WMethods}, false}, {api.Ware{Kind: api.WMethods, A: " , "}, false}, {api.Ware{Kind: api.WMethods, A: "GET,P T"}, false}, {api.Ware{Kind: api.WMethods, A: "GET," + m + "M"}, false}, {api.Ware{Kind: api.WMethods, A: line + ","}, false},
		{api.Ware{Kind: api.WAdd, A: "a", B: "b c"}, true}, {api.Ware{Kind: api.WAdd, A: name, B: value}, true}, {api.Ware{Kind: api.WAdd, A: "a"}, true},
		{api.Ware{Kind: api.WAdd, B: "b"}, false}, {api.Ware{Kind: api.WAdd, A: "a", B: " b"}, false}, {api.Ware{Kind: api.WAdd, A: name + "n"}, false}, {api.Ware{Kind: api.WAdd, A: "a", B: value + "v"}, false},
		{api.Ware{Kind: api.WDrop, A: name}, true}, {api.Ware{Kind: api.WDrop, A: "a", B: "\n"}, true}, {api.Ware{Kind: api.WDrop}, false}, {api.Ware{Kind: api.WDrop, A: name + "n"}, false}, {api.Ware{Kind: api.WDrop, A: "a b"}, false},
		{api.Ware{Kind: api.WRewrite, A: "/", B: "/a/"}, true}, {api.Ware{Kind: api.WRewrite, A: "/a"}, false}, {api.Ware{Kind: api.WRewrite, B: "/a"}, false}, {api.Ware{Kind: api.WRewrite, A: "/a//", B: "/b"}, false},
		{api.Ware{Kind: api.WLimit}, true}, {api.Ware{Kind: api.WLimit, N: api.MaxBody, A: "\n"}, true}, {api.Ware{Kind: api.WLimit, N: -1}, false}, {api.Ware{Kind: api.WLimit, N: api.MaxBody + 1}, false},
		{api.Ware{A: "a", B: "b"}, false}, {api.Ware{Kind: 6, A: "a", B: "b"}, false}, {api.Ware{Kind: -1, A: "/", B: "/"}, false},
	} {
		check(t, "ware "+string(rune('a'+i)), Ware(c.w), c.want)
	}
}

// P12.1: hosts without ports, in small letters.
func TestHost(t *testing.T) {
	for s, want := range map[string]string{"": "", "A.b": "a.b", "A:80": "a", "a:b:c": "a", ":80": "", "[::1]": "["} {
		if got := Host(s); got != want {
			t.Errorf("P12.1: Host %q: %q", s, got)
		}
	}
}
