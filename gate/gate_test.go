package gate

import (
	"errors"
	"reflect"
	"slices"
	"strings"
	"testing"

	"conduit/api"
	"conduit/conf"
	"conduit/cutter"
	"conduit/frames"
	"conduit/kind"
	"conduit/record"
	"conduit/reply"
	"conduit/route"
	"conduit/vars"
)

const (
	get   = "GET /x?q HTTP/1.1\r\nHost: a\r\n\r\n"
	get0  = "GET /x HTTP/1.0\r\n\r\n"
	typed = "Content-Type: a\n\n"
)

// rig: a gate, and calls that fail the test where they fail.
type rig struct {
	*testing.T
	g *Gate
}

func newRig(t *testing.T, change func(*api.Conf)) rig {
	c := conf.Small()
	if change != nil {
		change(&c)
	}
	if err := conf.Is(c); err != nil {
		t.Fatal(err)
	}
	return rig{t, New(c)}
}

func (r rig) do(a api.Act) (int, string) {
	r.Helper()
	n, s, err := r.g.Do(a)
	if err != nil {
		r.Fatalf("act %v: %v", a, err)
	}
	if a.Kind != api.AFeed && a.Kind != api.BFeed && n != 0 || a.Kind != api.ADrain && a.Kind != api.BDrain && s != "" {
		r.Errorf("P24.1: act %v: %d, %q", a, n, s)
	}
	return n, s
}

func (r rig) refused(a api.Act, want error) {
	r.Helper()
	before := r.g.Told()
	n, s, err := r.g.Do(a)
	if n != 0 || s != "" || !errors.Is(err, want) || !reflect.DeepEqual(before, r.g.Told()) {
		r.Errorf("P24.1: act %v: %d, %q, %v, not %v", a, n, s, err, want)
	}
}

func (r rig) connect(i int) { r.Helper(); r.do(api.Act{Kind: api.AConnect, Who: i}) }

// feed: all of s is taken.
func (r rig) feed(i int, s string) {
	r.Helper()
	if n, _ := r.do(api.Act{Kind: api.AFeed, Who: i, Data: s}); n != len(s) {
		r.Errorf("client %d: %d bytes taken of %d", i, n, len(s))
	}
}

func (r rig) drain(i int) string {
	r.Helper()
	_, s := r.do(api.Act{Kind: api.ADrain, Who: i, N: 1 << 20})
	return s
}

// take: what a backend is told now.
func (r rig) take(conn int) []api.Record {
	r.Helper()
	_, s := r.do(api.Act{Kind: api.BDrain, Who: conn, N: 1 << 20})
	l, err := cutter.New(api.MaxRecord).Feed(s)
	if err != nil {
		r.Fatalf("what a backend is told: %v", err)
	}
	return l
}

func (r rig) say(conn int, l ...api.Record) {
	r.Helper()
	s := ""
	for _, x := range l {
		s += record.Bytes(x)
	}
	if n, _ := r.do(api.Act{Kind: api.BFeed, Who: conn, Data: s}); n != len(s) {
		r.Errorf("connection %d: %d bytes taken of %d", conn, n, len(s))
	}
}

func (r rig) tick(n int) {
	for range n {
		r.do(api.Act{Kind: api.ATick})
	}
}

// outcomes: client, number, outcome, status of each.
func (r rig) outcomes(want ...[4]int) {
	r.Helper()
	var got [][4]int
	for _, t := range r.g.Told() {
		got = append(got, [4]int{t.Client, t.Number, t.Outcome, t.Status})
	}
	if !slices.Equal(got, want) {
		r.Errorf("outcomes: %v, not %v", got, want)
	}
}

func (r rig) live(conn int, want ...int) {
	r.Helper()
	m := r.g.Pool().Mux(conn)
	if m == nil {
		if want != nil {
			r.Errorf("connection %d is closed", conn)
		}
	} else if got := m.Live(); !slices.Equal(got, want) {
		r.Errorf("Live on %d: %v, not %v", conn, got, want)
	}
}

func (r rig) gone(i int, want bool) {
	r.Helper()
	if (r.g.Client(i) == nil) != want {
		r.Errorf("client %d: gone %v", i, !want)
	}
}

func (r rig) told(i int, want string) {
	r.Helper()
	if got := r.drain(i); got != want {
		r.Errorf("client %d is told %q, not %q", i, got, want)
	}
}

func out(id int, s string) api.Record { return api.Record{Type: api.TStdout, ID: id, Content: s} }

func end(id int) api.Record { return kind.End(id, api.End{}) }

func req(method string, minor int) api.Request { return api.Request{Method: method, Minor: minor} }

func plain(status int, keep bool) string { return reply.Plain(req("GET", 1), status, keep) }

const head200 = "HTTP/1.1 200 OK\r\nContent-Type: a\r\nTransfer-Encoding: chunked\r\nConnection: keep-alive\r\n\r\n"

// P24.1: who may connect, and when.
func TestConnect(t *testing.T) {
	r := newRig(t, nil)
	for _, i := range []int{-1, 4, 1 << 40} {
		for _, k := range []int{api.AConnect, api.AFeed, api.ADrain, api.AClose} {
			r.refused(api.Act{Kind: k, Who: i, Data: get, N: 1}, api.ErrPlace)
		}
	}
	for _, k := range []int{api.AFeed, api.ADrain, api.AClose} {
		r.refused(api.Act{Kind: k, Data: get}, api.ErrPlace)
	}
	for _, k := range []int{api.BFeed, api.BDrain, api.BClose} {
		r.refused(api.Act{Kind: k, Who: 1}, api.ErrPlace)
	}
	for _, k := range []int{0, -1, 10} {
		r.refused(api.Act{Kind: k}, api.ErrForm)
	}
	for i := range 4 {
		r.gone(i, true)
		r.connect(i)
		r.gone(i, false)
		r.refused(api.Act{Kind: api.AConnect, Who: i}, api.ErrBusy)
	}
	r.do(api.Act{Kind: api.AClose, Who: 3})
	r.do(api.Act{Kind: api.AStop})
	r.refused(api.Act{Kind: api.AConnect, Who: 3}, api.ErrBusy)
	r.refused(api.Act{Kind: api.AConnect, Who: 4}, api.ErrPlace)
}

// P24.2, P24.3: a request there and back, however bytes are cut.
func TestThereAndBack(t *testing.T) {
	const s = "\r\nPOST /a/b?c HTTP/1.1\r\nHost: H:81\r\nContent-Length: 4\r\n\r\nbody"
	for _, size := range []int{1, 7, 1000} {
		r := newRig(t, nil)
		r.connect(2)
		for i := 0; i < len(s); i += size {
			r.outcomes()
			r.feed(2, s[i:min(i+size, len(s))])
		}
		q := api.Request{Method: "POST", Target: "/a/b?c", Minor: 1, Fields: []api.Pair{{Name: "Host", Value: "H:81"}, {Name: "Content-Length", Value: "4"}}, Body: "body"}
		want := api.Told{Client: 2, Turn: 1, Number: 1, Request: q, Conn: 1, ID: 1}
		if got := r.g.Told(); !reflect.DeepEqual(got, []api.Told{want}) {
			t.Errorf("P24.2: %v", got)
		}
		v := vars.Build(conf.Small(), 2, q, api.Route{Info: "/a/b"})
		if got := r.take(1); !slices.Equal(got, frames.Build(1, v, "body")) {
			t.Errorf("P24.2: a backend is told %v", got)
		}
		if n, _ := r.do(api.Act{Kind: api.AFeed, Who: 2, Data: get}); n != 0 {
			t.Errorf("P24.1: %d bytes taken while a request is under way", n)
		}
		all := record.Bytes(out(1, typed+"one")) + record.Bytes(out(1, "")) + record.Bytes(end(1))
		for i := 0; i < len(all); i += size {
			r.do(api.Act{Kind: api.BFeed, Who: 1, Data: all[i:min(i+size, len(all))]})
		}
		r.told(2, head200+"3\r\none\r\n0\r\n\r\n")
		want.Outcome, want.Status = api.OAnswer, 200
		if got := r.g.Told(); !reflect.DeepEqual(got, []api.Told{want}) {
			t.Errorf("P24.3: %v", got)
		}
		r.live(1)
		r.gone(2, false)
		r.feed(2, get)
		if got := r.g.Told(); len(got) != 2 || got[1].Number != 2 || got[1].Turn != 1 || got[1].Conn != 1 || got[1].ID != 1 {
			t.Errorf("P24.2: the next one: %v", got)
		}
	}
}

// P24.1, P24.2: requests that are refused, one behind the other in one Feed.
func TestRefused(t *testing.T) {
	r := newRig(t, func(c *api.Conf) {
		c.Rules = []api.Rule{{Kind: api.RExact, Path: "/only", Wares: []api.Ware{{Kind: api.WMethods, A: "GET"}, {Kind: api.WLimit, N: 1}}}, {Kind: api.RPrefix, Path: "/", Host: "h"}}
		c.Body = 10
	})
	r.connect(0)
	s := strings.ReplaceAll("OPTIONS * HTTP/1.1|Host: h||"+ // 400
		"GET /%00 HTTP/1.1|Host: h||"+ // 400
		"GET /none HTTP/1.1|Host: a||"+ // 404
		"PUT /only HTTP/1.1|Host: a||"+ // 405
		"GET /only HTTP/1.1|Host: a|Content-Length: 2||ab"+ // 413
		"HEAD /none HTTP/1.0|Connection: keep-alive||", "|", "\r\n") // 404
	r.feed(0, s+"GE")
	r.told(0, plain(400, true)+plain(400, true)+plain(404, true)+plain(405, true)+plain(413, true)+reply.Plain(req("HEAD", 0), 404, true))
	r.outcomes([4]int{0, 1, api.OError, 400}, [4]int{0, 2, api.OError, 400}, [4]int{0, 3, api.OError, 404}, [4]int{0, 4, api.OError, 405}, [4]int{0, 5, api.OError, 413}, [4]int{0, 6, api.OError, 404})
	if len(r.g.Pool().Conns()) != 0 {
		t.Error("P24.2: a connection for nothing")
	}
	bad := "T /%2e%2e HTTP/1.0\r\n\r\n"
	if n, _ := r.do(api.Act{Kind: api.AFeed, Data: bad + get}); n != len(bad) {
		t.Errorf("P24.1: %d bytes taken", n)
	}
	r.gone(0, false)
	r.told(0, plain(400, false))
	r.gone(0, true)
	for _, c := range []struct {
		s      string
		status int
	}{{"GET\r\n", 400}, {"GET / HTTP/2.0\r\n", 505}, {strings.Repeat("x", 2001), 431}, {"GET / HTTP/1.0\r\nContent-Length: 11\r\n\r\n", 413}, {"GET / HTTP/1.0\r\nTransfer-Encoding: chunked\r\n\r\n", 501}} {
		r.connect(1)
		if n, _ := r.do(api.Act{Kind: api.AFeed, Who: 1, Data: c.s + get}); n != len(c.s) {
			t.Errorf("P24.1: %.30q: %d bytes taken", c.s, n)
		}
		r.told(1, plain(c.status, false))
		r.gone(1, true)
		all := r.g.Told()
		if got := all[len(all)-1]; got.Outcome != api.OError || got.Status != c.status || got.Number != 1 || got.Conn != 0 {
			t.Errorf("P24.2: %.30q: %v", c.s, got)
		}
	}
	if all := r.g.Told(); all[len(all)-1].Turn != 5 || all[len(all)-1].Request.Method != "GET" {
		t.Errorf("P24.1: %v", all[len(all)-1])
	}
}

// P24.2: the first Host chooses; wares change what a script is told, not what is told of the request.
func TestRouted(t *testing.T) {
	r := newRig(t, func(c *api.Conf) {
		c.Backends = 2
		c.Rules = []api.Rule{{Kind: api.RPrefix, Path: "/"}, {Kind: api.RPrefix, Path: "/a", Host: "h", Backend: 1, Wares: []api.Ware{{Kind: api.WDrop, A: "x"}, {Kind: api.WAdd, A: "Connection", B: "close"}, {Kind: api.WAdd, A: "Y", B: "z"}, {Kind: api.WRewrite, A: "/a", B: "/c"}}}}
	})
	r.connect(0)
	r.feed(0, "GET /a/./b HTTP/1.1\r\nX: 1\r\nHOST: H:1\r\n\r\n")
	r.connect(1)
	r.feed(1, "GET /a HTTP/1.0\r\n\r\n")
	if r.g.Pool().Backend(1) != 1 || r.g.Pool().Backend(2) != 0 {
		t.Errorf("P24.2: backends %d, %d", r.g.Pool().Backend(1), r.g.Pool().Backend(2))
	}
	q := api.Request{Method: "GET", Target: "/a/./b", Minor: 1, Fields: []api.Pair{{Name: "HOST", Value: "H:1"}, {Name: "Y", Value: "z"}}}
	v := vars.Build(r.g.Conf(), 0, q, api.Route{Script: "/c", Info: "/b"})
	if got := r.take(1); !slices.Equal(got, frames.Build(1, v, "")) {
		t.Errorf("P24.2: %v", got)
	}
	if got := r.g.Told()[0].Request.Fields; !slices.Equal(got, []api.Pair{{Name: "X", Value: "1"}, {Name: "HOST", Value: "H:1"}}) {
		t.Errorf("P24.2: told %v", got)
	}
	r.say(1, out(1, typed), end(1))
	r.told(0, head200+"0\r\n\r\n")
	r.gone(0, false) // the close that a ware added isn't the client's
}

// P24.1: a client that waits for a word ahead of its body gets it, and then its answer.
func TestContinue(t *testing.T) {
	r := newRig(t, nil)
	r.connect(0)
	r.feed(0, "PUT /x HTTP/1.1\r\nHost: a\r\nExpect: 100-continue\r\nContent-Length: 2\r\n\r\n")
	r.told(0, reply.Continue())
	r.feed(0, "ab")
	r.take(1)
	r.say(1, out(1, typed), end(1))
	r.told(0, head200+"0\r\n\r\n")
	if got := r.g.Told(); len(got) != 1 || got[0].Request.Body != "ab" {
		t.Errorf("P24.1: %v", got)
	}
}

// P24.2: no room: 503; the connection goes on.
func TestNoRoom(t *testing.T) {
	r := newRig(t, nil)
	for i := range 3 {
		r.connect(i)
		r.feed(i, get)
	}
	r.told(2, plain(503, true))
	r.outcomes([4]int{0, 1, 0, 0}, [4]int{1, 1, 0, 0}, [4]int{2, 1, api.OError, 503})
	r.live(1, 1, 2)
	r.gone(2, false)
}

// P24.3: how a script's end is told, by its Protocol and by what it said.
func TestEnds(t *testing.T) {
	for i, c := range []struct {
		said     string
		protocol int
		told     string
		outcome  [4]int
		gone     bool
	}{
		{"", 0, plain(502, true), [4]int{0, 1, api.OError, 502}, false}, {"Content-Type: a\n", 0, plain(502, true), [4]int{0, 1, api.OError, 502}, false},
		{"", 1, plain(503, true), [4]int{0, 1, api.OError, 503}, false}, {"", 2, plain(503, true), [4]int{0, 1, api.OError, 503}, false}, {"", 3, plain(502, true), [4]int{0, 1, api.OError, 502}, false}, {"", 255, plain(502, true), [4]int{0, 1, api.OError, 502}, false},
		{typed + "a", 1, head200 + "1\r\na\r\n", [4]int{0, 1, api.OCut, 0}, true}, {typed, 3, head200, [4]int{0, 1, api.OCut, 0}, true}, {typed, 0, head200 + "0\r\n\r\n", [4]int{0, 1, api.OAnswer, 200}, false},
		{"Status: 304\n\nlost", 0, "HTTP/1.1 304 Not Modified\r\nConnection: keep-alive\r\n\r\n", [4]int{0, 1, api.OAnswer, 304}, false},
	} {
		r := newRig(t, nil)
		r.connect(0)
		r.feed(0, get)
		r.take(1)
		if c.said != "" {
			r.say(1, out(1, c.said))
		}
		r.say(1, kind.End(1, api.End{Protocol: c.protocol}))
		r.outcomes(c.outcome)
		r.gone(0, false) // it waits to be drained
		if got := r.drain(0); got != c.told {
			t.Errorf("P24.3: row %d: %q", i, got)
		}
		r.gone(0, c.gone)
		r.live(1)
	}
}

// P24.3: what of HTTP/1.0 has no length ends with its connection.
func TestHTTP10(t *testing.T) {
	r := newRig(t, nil)
	r.connect(0)
	r.feed(0, "GET /x HTTP/1.0\r\nConnection: keep-alive\r\n\r\n")
	r.take(1)
	r.say(1, out(1, typed+"ab"), out(1, "c"), end(1))
	r.told(0, "HTTP/1.1 200 OK\r\nContent-Type: a\r\nConnection: close\r\n\r\nabc")
	r.gone(0, true)
	r.outcomes([4]int{0, 1, api.OAnswer, 200})
}

// P24.3: a script's head that may not be: 502, an abort, and nothing more of it.
func TestWrongHead(t *testing.T) {
	for _, s := range []string{"X\n", "\n", "X: " + strings.Repeat("x", 2001)} {
		r := newRig(t, nil)
		r.connect(0)
		r.feed(0, get)
		r.take(1)
		r.say(1, out(1, s), out(1, typed), out(1, "more"))
		r.told(0, plain(502, true))
		r.outcomes([4]int{0, 1, api.OError, 502})
		r.live(1, 1)
		if got := r.take(1); !slices.Equal(got, []api.Record{frames.Abort(1)}) {
			t.Errorf("P24.3: %v", got)
		}
		r.feed(0, get) // id 1 isn't free yet
		r.say(1, out(1, "late"), end(1))
		r.told(0, "")
		r.live(1, 2)
		r.take(1)
		r.say(1, out(2, typed), end(2))
		r.told(0, head200+"0\r\n\r\n")
	}
}

// P24.3: too much that waits for a client cuts its answer.
func TestTooMuch(t *testing.T) {
	r := newRig(t, func(c *api.Conf) { c.Out = 500 })
	r.connect(0)
	r.feed(0, get)
	r.connect(1)
	r.feed(1, get)
	r.take(1)
	r.say(1, out(1, typed), out(1, strings.Repeat("x", 500)), out(1, "y"), out(2, typed+strings.Repeat("x", 500)))
	r.outcomes([4]int{0, 1, api.OCut, 0}, [4]int{1, 1, api.OCut, 0})
	r.gone(1, true) // nothing waits for it
	r.gone(0, false)
	r.told(0, head200)
	r.gone(0, true)
	if got := r.take(1); !slices.Equal(got, []api.Record{frames.Abort(1), frames.Abort(2)}) {
		t.Errorf("P24.3: %v", got)
	}
	r.say(1, end(1), end(2))
	r.live(1)
}

// P24.3: an end that can't be told cuts; so does a response of the gateway's own.
func TestTooMuchAtTheEnd(t *testing.T) {
	r := newRig(t, func(c *api.Conf) { c.Out = 500 })
	r.connect(0)
	r.feed(0, get)
	r.take(1)
	fill := 500 - len(head200) - len("XXX\r\n\r\n")
	r.say(1, out(1, typed+strings.Repeat("x", fill)))
	if n := r.g.Client(0).Waits(); n < 496 || n > 500 {
		t.Fatalf("%d bytes wait", n)
	}
	r.say(1, end(1))
	r.outcomes([4]int{0, 1, api.OCut, 0})
	r.connect(1)
	many := strings.Repeat("GET /%00 HTTP/1.1\r\nHost: a\r\n\r\n", 9)
	r.do(api.Act{Kind: api.AFeed, Who: 1, Data: many})
	told := r.g.Told()
	last := told[len(told)-1]
	fits := 500 / len(plain(400, true))
	if len(told) != 1+fits+1 || last.Outcome != api.OCut || last.Status != 0 || told[len(told)-2].Outcome != api.OError {
		t.Errorf("P24.3: %d told, %v", len(told), last)
	}
	r.told(1, strings.Repeat(plain(400, true), fits))
	r.gone(1, true)
}

// P24.1: a client that closes cuts its request; its id is free when its end came.
func TestClose(t *testing.T) {
	r := newRig(t, nil)
	r.connect(0)
	r.feed(0, get)
	r.do(api.Act{Kind: api.AClose})
	r.gone(0, true)
	r.outcomes([4]int{0, 1, api.OCut, 0})
	r.live(1) // the backend never heard of it
	r.connect(0)
	r.feed(0, get)
	r.take(1)
	r.say(1, out(1, typed))
	r.do(api.Act{Kind: api.AClose})
	r.outcomes([4]int{0, 1, api.OCut, 0}, [4]int{0, 1, api.OCut, 0})
	if got := r.g.Told()[1]; got.Turn != 2 {
		t.Errorf("P24.1: turn %d", got.Turn)
	}
	r.connect(0)
	r.say(1, out(1, "late"))
	r.told(0, "")
	r.live(1, 1)
	if got := r.take(1); !slices.Equal(got, []api.Record{frames.Abort(1)}) {
		t.Errorf("P24.1: %v", got)
	}
	r.say(1, end(1))
	r.live(1)
	r.do(api.Act{Kind: api.AClose}) // nothing is under way
	r.outcomes([4]int{0, 1, api.OCut, 0}, [4]int{0, 1, api.OCut, 0})
}

// P24.1, P24.4: a connection that is closed, or says what it may not, fails what is under way on it.
func TestConnectionLost(t *testing.T) {
	for i, lose := range []func(rig){
		func(r rig) { r.do(api.Act{Kind: api.BClose, Who: 1}) },
		func(r rig) { r.say(1, out(1, "x"), out(0, "y")) },
		func(r rig) {
			if n, _ := r.do(api.Act{Kind: api.BFeed, Who: 1, Data: "\x02abc"}); n != 4 {
				t.Errorf("P24.1: %d bytes taken", n)
			}
		},
	} {
		r := newRig(t, func(c *api.Conf) { c.IDs = 4 })
		for k := range 4 {
			r.connect(k)
			r.feed(k, get)
		}
		r.take(1)
		r.say(1, out(1, typed), out(3, typed), end(3))
		r.do(api.Act{Kind: api.AClose, Who: 3})
		lose(r)
		r.outcomes([4]int{0, 1, api.OCut, 0}, [4]int{1, 1, api.OError, 502}, [4]int{2, 1, api.OAnswer, 200}, [4]int{3, 1, api.OCut, 0})
		told := head200
		if i == 1 {
			told += "1\r\nx\r\n"
		}
		r.told(0, told)
		r.gone(0, true)
		r.told(1, plain(502, true))
		r.gone(1, false)
		if got := r.g.Pool().Conns(); len(got) != 0 {
			t.Errorf("P24.4: connections %v", got)
		}
		r.refused(api.Act{Kind: api.BFeed, Who: 1}, api.ErrPlace)
		r.feed(1, get)
		if got := r.g.Told()[4]; got.Conn != 2 || got.ID != 1 {
			t.Errorf("P24.4: %v", got)
		}
	}
}

// P24.4: a request that takes too long.
func TestTimeout(t *testing.T) {
	r := newRig(t, func(c *api.Conf) { c.Timeout = 3 })
	r.connect(0)
	r.tick(5)
	r.feed(0, get)
	r.tick(2)
	r.connect(1)
	r.feed(1, get)
	r.take(1)
	r.outcomes([4]int{0, 1, 0, 0}, [4]int{1, 1, 0, 0})
	r.tick(1)
	r.outcomes([4]int{0, 1, api.OError, 504}, [4]int{1, 1, 0, 0})
	r.told(0, plain(504, true))
	r.live(1, 1, 2)
	r.say(1, out(2, typed))
	r.tick(1)
	r.say(1, end(1)) // in time
	r.tick(1)
	r.outcomes([4]int{0, 1, api.OError, 504}, [4]int{1, 1, api.OCut, 0})
	r.told(1, head200)
	r.gone(1, true)
	if got := r.take(1); !slices.Equal(got, []api.Record{frames.Abort(1), frames.Abort(2)}) {
		t.Errorf("P24.4: %v", got)
	}
	r.live(1, 2)
	r.tick(2)
	r.live(1, 2)
	r.tick(1) // three ticks since its request was over
	if got := r.g.Pool().Conns(); len(got) != 0 {
		t.Errorf("P24.4: connections %v", got)
	}
}

// P24.4: a connection that keeps an id too long takes the others with it.
func TestStuck(t *testing.T) {
	r := newRig(t, func(c *api.Conf) { c.Timeout = 2; c.Conns = 2; c.Backends = 2 })
	for i := range 2 {
		r.connect(i)
		r.feed(i, get)
	}
	r.take(1)
	r.take(2)
	r.do(api.Act{Kind: api.AClose, Who: 0})
	r.do(api.Act{Kind: api.AClose, Who: 1})
	r.tick(1)
	r.take(2)
	r.say(2, end(1))
	r.connect(2)
	r.feed(2, get)
	r.connect(3)
	r.feed(3, get)
	r.tick(1)
	if got := r.g.Told()[2:]; got[0].Conn != 2 || got[1].Conn != 1 || got[0].Outcome != 0 || got[1].Status != 502 {
		t.Errorf("P24.4: %v", got)
	}
	if got := r.g.Pool().Conns(); !slices.Equal(got, []int{2}) {
		t.Errorf("P24.4: connections %v", got)
	}
	r.tick(1)
	r.outcomes([4]int{0, 1, api.OCut, 0}, [4]int{1, 1, api.OCut, 0}, [4]int{2, 1, api.OError, 504}, [4]int{3, 1, api.OError, 502})
}

// P24.4: a connection that is closed leaves the others as they are, and nothing is kept of it.
func TestOthersGoOn(t *testing.T) {
	r := newRig(t, func(c *api.Conf) { c.Conns = 2 })
	for i := range 3 {
		r.connect(i)
		r.feed(i, get)
	}
	r.take(1)
	r.take(2)
	r.do(api.Act{Kind: api.BClose, Who: 1})
	r.say(2, out(1, typed), end(1))
	r.told(1, head200+"0\r\n\r\n")
	r.outcomes([4]int{0, 1, api.OError, 502}, [4]int{1, 1, api.OAnswer, 200}, [4]int{2, 1, api.OError, 502})
	for p := range r.g.jobs {
		if p.conn != 2 {
			t.Errorf("P24.5: kept of %v", p)
		}
	}
}

// P24.1, P24.4: a stop: those who ask for nothing go, those under way end behind their answer.
func TestStop(t *testing.T) {
	r := newRig(t, nil)
	for i := range 4 {
		r.connect(i)
	}
	r.feed(0, "\r\n")
	r.feed(1, "GET")
	r.feed(2, get)
	r.feed(3, "GET /%00 HTTP/1.1\r\nHost: a\r\n\r\n")
	r.take(1)
	r.do(api.Act{Kind: api.AStop})
	r.gone(0, true)
	r.gone(1, false)
	r.gone(2, false)
	r.gone(3, false) // its answer waits
	if n, _ := r.do(api.Act{Kind: api.AFeed, Who: 3, Data: get}); n != 0 {
		t.Errorf("P24.1: %d bytes taken behind a stop", n)
	}
	r.told(3, plain(400, true))
	r.gone(3, true)
	r.feed(1, get[3:])
	r.told(1, plain(503, false))
	r.gone(1, true)
	if r.g.Empty() {
		t.Error("P24.4: empty too early")
	}
	r.do(api.Act{Kind: api.AStop})
	r.say(1, out(1, typed), end(1))
	r.told(2, head200+"0\r\n\r\n")
	r.gone(2, true)
	if !r.g.Empty() {
		t.Error("P24.4: not empty")
	}
	r.outcomes([4]int{2, 1, api.OAnswer, 200}, [4]int{3, 1, api.OError, 400}, [4]int{1, 1, api.OError, 503})
}

// P24.4: not empty while an id is in use, nor ahead of a stop.
func TestEmpty(t *testing.T) {
	r := newRig(t, nil)
	if r.g.Empty() {
		t.Error("P24.4: empty without a stop")
	}
	r.connect(0)
	r.feed(0, get)
	r.take(1)
	r.do(api.Act{Kind: api.AClose})
	r.do(api.Act{Kind: api.AStop})
	if r.g.Empty() {
		t.Error("P24.4: empty though id 1 is in use")
	}
	r.tick(10)
	if !r.g.Empty() {
		t.Error("P24.4: not empty")
	}
}

// P24.1: parts of what waits; numbers that are no numbers of bytes.
func TestDrain(t *testing.T) {
	r := newRig(t, nil)
	r.connect(0)
	r.feed(0, get0)
	for _, n := range []int{0, -5} {
		if _, s := r.do(api.Act{Kind: api.BDrain, Who: 1, N: n}); s != "" {
			t.Errorf("P24.1: %q", s)
		}
	}
	if _, s := r.do(api.Act{Kind: api.BDrain, Who: 1, N: 3}); s != "\x01\x01\x00" {
		t.Errorf("P24.1: %q", s)
	}
	r.do(api.Act{Kind: api.BDrain, Who: 1, N: 1 << 20})
	r.say(1, end(1))
	want := reply.Plain(req("GET", 0), 502, false)
	if _, s := r.do(api.Act{Kind: api.ADrain, N: 5}); s != want[:5] {
		t.Errorf("P24.1: %q", s)
	}
	r.gone(0, false)
	if _, s := r.do(api.Act{Kind: api.ADrain, N: len(want) - 5}); s != want[5:] {
		t.Errorf("P24.1: %q", s)
	}
	r.gone(0, true)
}

// What is configured is kept apart; one that may not be is the small one; what is answered is new.
func TestMemory(t *testing.T) {
	c := conf.Small()
	c.Rules[0].Wares = []api.Ware{{Kind: api.WLimit, N: 5}}
	g := New(c)
	want := g.Conf()
	c.Rules[0].Wares[0].N, c.Rules[0].Path = 7, "/c"
	g.Conf().Rules[0].Wares[0].N = 8
	if !reflect.DeepEqual(g.Conf(), want) || want.Rules[0].Wares[0].N != 5 {
		t.Errorf("P24.1: %v", g.Conf())
	}
	if got := New(api.Conf{}).Conf(); !reflect.DeepEqual(got, conf.Small()) {
		t.Errorf("P24.1: %v", got)
	}
	r := rig{t, g}
	r.connect(0)
	r.feed(0, get)
	told := g.Told()
	told[0].Request.Fields[0].Name, told[0].Outcome = "changed", 9
	if got := g.Told()[0]; got.Request.Fields[0].Name != "Host" || got.Outcome != 0 {
		t.Errorf("memory is shared: %v", got)
	}
	if _, ok := route.Choose(want.Rules, "", "/x"); !ok {
		t.Error("the rule is changed")
	}
}
