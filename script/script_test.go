package script

import (
	"errors"
	"reflect"
	"strings"
	"testing"

	"conduit/api"
	"conduit/kind"
	"conduit/record"
)

// run: lines, and behind `=>` what each answers; without it `ok`.
func run(t *testing.T, s *Script, lines ...string) {
	t.Helper()
	for _, l := range lines {
		line, want, is := strings.Cut(l, " => ")
		if !is {
			want = "ok"
		}
		if want == "nothing" {
			want = ""
		}
		if got, err := s.Do(line); err != nil || len(got) != 1 || got[0] != want {
			t.Errorf("P28.1: %q: %q, %v, not %q", line, got, err, want)
		}
	}
}

const get = `GET /app/x HTTP/1.1\nHost: a\n\n`

// P28.1: the world's configuration.
func TestConfiguration(t *testing.T) {
	want := api.Conf{Name: "local", Port: 8080, Backends: 2, Conns: 1, IDs: 2, Head: 1000, Body: 200, Out: 2000, Timeout: 5, Rules: []api.Rule{
		{Kind: api.RPrefix, Path: "/app"}, {Kind: api.RExt, Path: ".php", Backend: 1}, {Kind: api.RExact, Path: "/only", Wares: []api.Ware{{Kind: api.WMethods, A: "GET,HEAD"}}}, {Kind: api.RSegs, Path: "/u/:id"}}}
	if got := New().World().Gate().Conf(); !reflect.DeepEqual(got, want) {
		t.Errorf("P28.1: %v", got)
	}
}

// P28.1, P28.2: a request there and back, by lines.
func TestThereAndBack(t *testing.T) {
	s := New()
	run(t, s, "right => yes", "empty => no", "conns => nothing", "connect 0", "feed 0 "+get, "told 0 1 => waits", "conns => 1", "live 1 => 1", "feed 0 "+get, "take 1 999999",
		`out 1 1 Content-Type: a\l\lone\ntwo`, "err 1 1 oops", "waits 0 => 101", "out 1 1", "end 1 1 0", "told 0 1 => answer 200, waits", "live 1 => 1",
		"drain 0 5", "got 0 1 => HTTP/", "drain 0 999999", `got 0 1 => HTTP/1.1 200 OK\nContent-Type: a\nTransfer-Encoding: chunked\nConnection: keep-alive\n\n8\none\ntwo\n0\n\n`, "waits 0 => 0",
		"calm 2", "told 0 1 => answer 200, answer 200", "live 1 => nothing", "right => yes")
	if got := s.World().Got(0, 1); !strings.HasSuffix(got, "Content-Type: text/plain\r\nTransfer-Encoding: chunked\r\nConnection: keep-alive\r\n\r\n0\r\n\r\n") {
		t.Errorf("P28.2: %q", got)
	}
	run(t, s, "close 0", "connect 0", "got 0 2 => nothing", "told 0 2 => nothing", "told 0 999999 => nothing", "got 3 9 => nothing", "told 3 0 => nothing", "waits 3 => 0", "live 9 => nothing")
}

// P28.1: each kind of an outcome, and ids and connections side by side.
func TestOutcomes(t *testing.T) {
	s := New()
	run(t, s, "connect 0", "connect 1", "connect 2", "feed 0 "+get, "feed 1 "+get, `feed 2 GET /x.php HTTP/1.0\n\n`, "conns => 1 2", "live 1 => 1 2", "live 2 => 1", "take 1 9999", "take 2 9999",
		`out 2 1 Status: 404\l\lno`, "shut 2", "told 2 1 => cut", "conns => 1", "end 1 1 2", "told 0 1 => error 503", "tick", "tick", "tick", "tick", "told 1 1 => waits", "tick", "told 1 1 => error 504",
		`feed 0 PUT /only HTTP/1.1\nHost: a\n\n`, `feed 0 GET /none HTTP/1.1\nHost: a\n\n`, "told 0 1 => error 503, error 405, error 404", "close 1", "stop", "drain 0 9999", "drain 2 9999", "empty => no", "take 1 9999", "end 1 2 0", "close 0 => error 17", "empty => yes")
}

// P28.1: errors of acts are told by their numbers.
func TestErrors(t *testing.T) {
	s := New()
	run(t, s, "feed 3 x => error 17", "drain 3 1 => error 17", "close 3 => error 17", "feed 0 x => error 17", "feed 0 => error 17", "drain 0 1 => error 17", "close 0 => error 17", "take 1 1 => error 17", "take 0 0 => error 17", "shut 1 => error 17", "out 1 1 x => error 17", "err 1 1 => error 17", "end 1 1 0 => error 17", "raw 1 x => error 17",
		"connect 0", "connect 0 => error 19", "close 0", "stop", "connect 0 => error 19", "empty => yes", "tick", "calm 0")
}

// P28.1: what backends say: out, err, end, raw: the same as the bytes by an act.
func TestSaid(t *testing.T) {
	begun := func() *Script {
		s := New()
		run(t, s, "connect 0", "feed 0 "+get, "take 1 9999")
		return s
	}
	text := "Content-Type: a\n\n\r\nb "
	line := `Content-Type: a\l\l\nb `
	for said, l := range map[string][]api.Record{
		"out 1 1 " + line: {{Type: api.TStdout, ID: 1, Content: text}}, "err 1 1 " + line: {{Type: api.TStderr, ID: 1, Content: text}}, "out 1 1": {{Type: api.TStdout, ID: 1}}, "err 1 1": {{Type: api.TStderr, ID: 1}},
		"end 1 1 0": {kind.End(1, api.End{})}, "end 1 1 1": {kind.End(1, api.End{Protocol: 1})}, "end 1 1 256": {kind.End(1, api.End{})}, "out 1 2 x": {{Type: api.TStdout, ID: 2, Content: "x"}}, "out 1 0 x": {{Type: api.TStdout, Content: "x"}},
		"out 1 70000 x": nil, "end 1 999999 0": nil, "raw 1": nil,
	} {
		a, b := begun(), begun()
		run(t, a, said)
		bytes := ""
		for _, r := range l {
			bytes += record.Bytes(r)
		}
		b.World().Do(api.Act{Kind: api.BFeed, Who: 1, Data: bytes})
		for _, s := range []*Script{a, b} {
			run(t, s, "calm 1")
		}
		if !reflect.DeepEqual(a.World().Gate().Told(), b.World().Gate().Told()) || a.World().Got(0, 1) != b.World().Got(0, 1) || !reflect.DeepEqual(a.World().Ends(1), b.World().Ends(1)) {
			t.Errorf("P28.1: %q: %v, not %v", said, a.World().Gate().Told(), b.World().Gate().Told())
		}
	}
	s := begun()
	run(t, s, "raw 1 \x01\x06\x00\x01\x00\x12\x00\x00Content-Type: a\\n\\l", "got 0 1 => nothing", "raw 1 x", "told 0 1 => cut", "conns => nothing")
}

// P28.1: texts: what stands for other bytes, blanks, what stands for itself.
func TestTexts(t *testing.T) {
	s := New()
	run(t, s, "connect 0", `feed 0 GET /app/a\x\\`+"\t HTTP/1.1", "feed 0", `feed 0 \n`, "told 0 1 => error 400")
	if got := s.World().Gate().Told()[0]; got.Request.Method != "" {
		t.Errorf("P28.1: %v", got)
	}
	s = New()
	run(t, s, "connect 0", `feed 0 GET /app/a\x\\ HTTP/1.0\nA:   b \nC:\n`, `feed 0  \n`, "told 0 1 => error 400", "drain 0 5", "drain 0 8", `got 0 1 => HTTP/1.1 400 `)
	if got := s.World().Gate().Told()[0].Request; got.Target != `/app/a\x\\` || got.Fields[0].Value != "b" {
		t.Errorf("P28.1: %v", got)
	}
	run(t, s, "drain 0 999", "connect 0", `feed 0 \l`, "drain 0 999", `got 0 2 => HTTP/1.1 400 Bad Request\nContent-Length: 16\nContent-Type: text/plain\nConnection: close\n\n400 Bad Request\l`)
}

// P28.1: what is no line changes nothing.
func TestNoLine(t *testing.T) {
	s := New()
	run(t, s, "connect 0", "feed 0 "+get)
	for _, line := range []string{
		"", " ", "x", "Tick", "tick ", " tick", "tick 1", "stop 0", "connect", "connect ", "connect x", "connect 00", "connect 01", "connect -1", "connect +1", "connect 1000000", "connect 1 ", "connect  1", "connect 1 2", "connect\t1",
		"feed", "feed ", "feed x", "feed 0 ", "feed  0", "feed 01 x", "drain 0", "drain 0 ", "drain 0 x", "drain 0 1 ", "drain 0 01", "drain 0 1000000", "close", "close 0 x", "take 1", "shut", "calm", "calm x", "calm 0 0",
		"out 1", "out 1 ", "out 1 1 ", "out 1 x y", "err 1", "err 1 1 ", "end 1 1", "end 1 1 ", "end 1 1 x", "end 1 1 0 0", "raw", "raw 1 ", "raw x", "got 0", "got 0 1 2", "told 0", "told 0 x", "live", "live x", "conns 1", "waits", "right 1", "empty ", "connect 0x1", "connect 1.0",
	} {
		if got, err := s.Do(line); got != nil || !errors.Is(err, api.ErrLine) {
			t.Errorf("P28.1: %q: %q, %v", line, got, err)
		}
	}
	run(t, s, "told 0 1 => waits", "conns => 1", "live 1 => 1", "waits 0 => 0", "right => yes", "empty => no", "connect 3")
}

// P28.1: C is a client: a number of none makes no line, and nothing is changed; other numbers are of any size.
func TestClients(t *testing.T) {
	s := New()
	run(t, s, "connect 0", "feed 0 "+get, "take 1 1")
	for _, n := range []string{"4", "5", "9", "10", "40", "999999"} {
		for _, line := range []string{"connect " + n, "feed " + n, "feed " + n + " x", "drain " + n + " 1", "close " + n, "got " + n + " 1", "told " + n + " 1", "waits " + n} {
			if got, err := s.Do(line); got != nil || !errors.Is(err, api.ErrLine) {
				t.Errorf("P28.1: %q: %q, %v", line, got, err)
			}
		}
		run(t, s, "take "+n+" 1 => error 17", "shut "+n+" => error 17", "out "+n+" 1 x => error 17", "err "+n+" "+n+" => error 17", "end "+n+" 1 1 => error 17", "raw "+n+" x => error 17",
			"live "+n+" => nothing", "drain 0 "+n, "got 0 "+n+" => nothing", "told 0 "+n+" => nothing")
	}
	run(t, s, "told 0 1 => waits", "conns => 1", "live 1 => 1", "empty => no", "right => yes")
	for _, n := range []string{"1", "2", "3"} {
		run(t, s, "feed "+n+" x => error 17", "drain "+n+" 1 => error 17", "close "+n+" => error 17", "waits "+n+" => 0", "got "+n+" 1 => nothing", "told "+n+" 1 => nothing", "connect "+n, "waits "+n+" => 0", "feed "+n, "drain "+n+" 1", "close "+n)
	}
}

// P28.1: calm is held.
func TestCalm(t *testing.T) {
	s := New()
	run(t, s, "connect 0", "feed 0 "+get, "calm 999999", "told 0 1 => answer 200", "stop", "calm 1", "empty => yes", "right => yes")
}
