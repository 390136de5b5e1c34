package client

import (
	"fmt"
	"reflect"
	"strings"
	"testing"

	"conduit/api"
	"conduit/reply"
)

const (
	get  = "GET / HTTP/1.0\r\n\r\n"
	wait = "PUT / HTTP/1.1\r\nHost: a\r\nExpect: 100-continue\r\nContent-Length: 2\r\n\r\n"
)

func none(t *testing.T, c *Client, s string, taken int) {
	t.Helper()
	if r, n, status := c.Feed(s); !reflect.DeepEqual(r, api.Request{}) || n != taken || status != -1 {
		t.Errorf("P23.1: %q: %v, %d, %d", s, r, n, status)
	}
}

func state(t *testing.T, c *Client, ready, closing, over, began bool) {
	t.Helper()
	if c.Ready() != ready || c.Closing() != closing || c.Over() != over || c.Began() != began {
		t.Errorf("P23.2: Ready %v, Closing %v, Over %v, Began %v", c.Ready(), c.Closing(), c.Over(), c.Began())
	}
}

// P23.1, P23.3: one request after the other; what is behind one isn't taken till it is Done.
func TestFeed(t *testing.T) {
	for _, size := range []int{1, 5, 1000} {
		c := New(1000, 100, 1000)
		s := "\r\n" + get + get
		for i := 0; i < 2; i++ {
			state(t, c, true, false, false, false)
			for {
				part := s[:min(size, len(s))]
				r, n, status := c.Feed(part)
				s = s[n:]
				if status == 0 {
					if want := (api.Request{Method: "GET", Target: "/"}); !reflect.DeepEqual(r, want) || len(s) != (1-i)*len(get) {
						t.Errorf("P23.1: %v, %q", r, s)
					}
					break
				}
				if status != -1 || n != len(part) || n == 0 {
					t.Fatalf("P23.1: %v, %d, %d", r, n, status)
				}
			}
			state(t, c, false, false, false, false)
			none(t, c, s, 0)
			none(t, c, "", 0)
			c.Done(true)
		}
		none(t, c, "", 0)
		none(t, c, "G", 1)
		state(t, c, true, false, false, true)
	}
}

// P23.1: wrong requests: the status, and what was read of them.
func TestFeedErrors(t *testing.T) {
	many := ""
	for i := range api.MaxFields + 1 {
		many += fmt.Sprintf("F%d: v\r\n", i)
	}
	for s, want := range map[string]int{"GET\r\n": 400, "GET / HTTP/2.0\r\n": 505, "GET / HTTP/1.1\r\n\r\n": 400, strings.Repeat("x", 1001): 431, "PUT / HTTP/1.0\r\nContent-Length: 101\r\n\r\n": 413,
		"PUT / HTTP/1.0\r\nTransfer-Encoding: chunked\r\n\r\n": 501, "GET / HTTP/1.0\r\n" + many: 431, strings.Replace(wait, "2", "200", 1): 413} {
		c := New(1000, 100, 1000)
		r, n, status := c.Feed(s + "more")
		if n != len(s) || status != want || r.Body != "" {
			t.Errorf("P23.1: %.40q: %v, %d, %d", s, r, n, status)
		}
		if want == 501 && (r.Method != "PUT" || len(r.Fields) != 1) || strings.Contains(s, "F32") && len(r.Fields) != api.MaxFields+1 {
			t.Errorf("P23.1: %.40q: as far as it was read: %v", s, r)
		}
		state(t, c, false, false, false, false)
		none(t, c, get, 0)
		if c.Waits() != 0 {
			t.Errorf("P23.1: %.40q: told %q", s, c.Drain(1000))
		}
		c.Done(true)
		if _, n, status := c.Feed(get); n != len(get) || status != 0 {
			t.Errorf("P23.2: a new reader: %d, %d", n, status)
		}
	}
}

// P23.1: Continue, once for each request that waits for it, if it isn't too much.
func TestContinue(t *testing.T) {
	c := New(1000, 100, 30)
	for range 2 {
		none(t, c, wait, len(wait))
		none(t, c, "", 0)
		if got := c.Drain(1000); got != reply.Continue() {
			t.Errorf("P23.1: %q", got)
		}
		none(t, c, "", 0)
		none(t, c, "a", 1)
		if r, _, status := c.Feed("b"); r.Body != "ab" || status != 0 || c.Waits() != 0 {
			t.Errorf("P23.1: %v, %d, %d", r, status, c.Waits())
		}
		c.Done(true)
	}
	if _, _, status := c.Feed(wait + "ab"); status != 0 || c.Waits() != 0 {
		t.Errorf("P23.1: the body came: %d, %q", status, c.Drain(1000))
	}
	c.Done(true)
	c.Tell("123456")
	none(t, c, wait, len(wait))
	if state(t, c, true, false, false, true); c.Waits() != 6 {
		t.Errorf("P23.1: too much: %q", c.Drain(1000))
	}
	c.Drain(1)
	none(t, c, "", 0)
	if got := c.Drain(1000); got != "23456"+reply.Continue() {
		t.Errorf("P23.1: when it isn't too much any more: %q", got)
	}
}

// P23.2: what waits, up to its limit; one more ends the connection.
func TestTell(t *testing.T) {
	c := New(1000, 100, 10)
	if !c.Tell("0123456789") || !c.Tell("") || c.Waits() != 10 {
		t.Errorf("P23.2: at the limit: %d", c.Waits())
	}
	for _, n := range []int{0, -1} {
		if got := c.Drain(n); got != "" {
			t.Errorf("P23.2: Drain %d: %q", n, got)
		}
	}
	if got := c.Drain(3); got != "012" || c.Waits() != 7 || !c.Tell("abc") {
		t.Errorf("P23.2: Drain 3: %q", got)
	}
	state(t, c, true, false, false, false)
	if c.Tell("x") || c.Waits() != 10 {
		t.Errorf("P23.2: one more: %d", c.Waits())
	}
	state(t, c, false, true, false, false)
	none(t, c, get, 0)
	c.Done(true)
	state(t, c, false, true, false, false)
	if got := c.Drain(1 << 40); got != "3456789abc" {
		t.Errorf("P23.2: all: %q", got)
	}
	state(t, c, false, true, true, false)
	if !c.Tell("y") || c.Over() {
		t.Error("P23.2: Tell of one that is Closing")
	}
	c = New(1000, 100, 10)
	if c.Tell("0123456789a") || c.Waits() != 0 || !c.Over() {
		t.Error("P23.2: too much at once")
	}
}

// P23.2: Done goes on, or ends the connection when all went out.
func TestDone(t *testing.T) {
	c := New(1000, 100, 100)
	c.Feed(get)
	c.Tell("abc")
	c.Done(false)
	state(t, c, false, true, false, false)
	none(t, c, get, 0)
	c.Drain(3)
	state(t, c, false, true, true, false)
	c = New(1000, 100, 100)
	c.Feed("GE")
	state(t, c, true, false, false, true)
	c.Done(true)
	state(t, c, true, false, false, false)
	c.Done(false)
	state(t, c, false, true, true, false)
}
