package conf

import (
	"errors"
	"reflect"
	"strings"
	"testing"

	"conduit/api"
)

// P17.1: the small one.
func TestSmall(t *testing.T) {
	want := api.Conf{Name: "local", Port: 80, Rules: []api.Rule{{Kind: api.RPrefix, Path: "/"}}, Conns: 1, IDs: 2, Head: 2000, Body: 4000, Out: 8000, Timeout: 10, Backends: 1}
	if got := Small(); !reflect.DeepEqual(got, want) || Is(got) != nil {
		t.Errorf("P17.1: %v, %v", got, Is(got))
	}
	Small().Rules[0].Path = "/changed"
	if Small().Rules[0].Path != "/" {
		t.Error("memory is shared")
	}
}

// P17.1, P17.2: each number at its bounds and one past them.
func TestBounds(t *testing.T) {
	for name, c := range map[string]struct {
		set         func(*api.Conf, int)
		least, most int
	}{
		"Port":     {func(c *api.Conf, n int) { c.Port = n }, 1, 65535},
		"Backends": {func(c *api.Conf, n int) { c.Backends = n }, 1, 2},
		"Conns":    {func(c *api.Conf, n int) { c.Conns = n }, 1, 4},
		"IDs":      {func(c *api.Conf, n int) { c.IDs = n }, 1, 8},
		"Head":     {func(c *api.Conf, n int) { c.Head = n }, 1, 2000},
		"Body":     {func(c *api.Conf, n int) { c.Body = n }, 0, 4000},
		"Out":      {func(c *api.Conf, n int) { c.Out = n }, 500, 8000},
		"Timeout":  {func(c *api.Conf, n int) { c.Timeout = n }, 1, 100},
		"Rules":    {func(c *api.Conf, n int) { c.Rules = rules(n) }, 0, 8},
		"Name":     {func(c *api.Conf, n int) { c.Name = strings.Repeat("n", max(n, 0)) }, 1, 64},
	} {
		for n, want := range map[int]bool{c.least: true, c.most: true, c.least - 1: name == "Rules", c.most + 1: false} {
			conf := Small()
			c.set(&conf, n)
			if err := Is(conf); (err == nil) != want || !want && !errors.Is(err, api.ErrConf) {
				t.Errorf("P17.1: %s %d: %v", name, n, err)
			}
		}
	}
}

func rules(n int) []api.Rule {
	var out []api.Rule
	for range n {
		out = append(out, api.Rule{Kind: api.RPrefix, Path: "/"})
	}
	return out
}

// P17.1: names, and rules by rule's Is with Backends.
func TestNamesAndRules(t *testing.T) {
	for name, want := range map[string]bool{"a-z.09": true, "A": false, "a_b": false, "a:1": false, "\xe9": false, " ": false, "/": false, "{": false, "`": false} {
		conf := Small()
		conf.Name = name
		if err := Is(conf); (err == nil) != want {
			t.Errorf("P17.1: name %q: %v", name, err)
		}
	}
	conf := Small()
	conf.Rules = append(rules(7), api.Rule{Kind: api.RPrefix, Path: "/", Backend: 1})
	if err := Is(conf); !errors.Is(err, api.ErrConf) {
		t.Errorf("P17.1: a backend that there isn't: %v", err)
	}
	if conf.Backends = 2; Is(conf) != nil {
		t.Errorf("P17.1: a second backend: %v", Is(conf))
	}
	if conf.Rules[3].Path = "a"; !errors.Is(Is(conf), api.ErrConf) {
		t.Errorf("P17.1: a rule that may not be: %v", Is(conf))
	}
}
