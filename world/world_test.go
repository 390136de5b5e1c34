package world

import (
	"errors"
	"math/rand"
	"reflect"
	"slices"
	"strings"
	"testing"

	"conduit/api"
	"conduit/conf"
	"conduit/frames"
	"conduit/judge"
	"conduit/kind"
	"conduit/model"
	"conduit/record"
	"conduit/request"
)

const (
	get    = "GET /x HTTP/1.1\r\nHost: a\r\n\r\n"
	typed  = "Content-Type: text/plain\n\n"
	status = "HTTP/1.1 200 OK\r\nContent-Type: text/plain\r\nTransfer-Encoding: chunked\r\nConnection: keep-alive\r\n\r\n"
)

func put(body string) string {
	n := string(rune('0'+len(body)/1000%10)) + string(rune('0'+len(body)/100%10)) + string(rune('0'+len(body)/10%10)) + string(rune('0'+len(body)%10))
	return "PUT /x HTTP/1.1\r\nHost: a\r\nContent-Length: " + n + "\r\n\r\n" + body
}

func do(t *testing.T, w *World, acts ...api.Act) {
	t.Helper()
	for _, a := range acts {
		if err := w.Do(a); err != nil {
			t.Fatalf("act %v: %v", a, err)
		}
	}
}

func connect(i int) api.Act { return api.Act{Kind: api.AConnect, Who: i} }

func feed(i int, s string) api.Act { return api.Act{Kind: api.AFeed, Who: i, Data: s} }

func drain(i int) api.Act { return api.Act{Kind: api.ADrain, Who: i, N: 1 << 20} }

func take(conn int) api.Act { return api.Act{Kind: api.BDrain, Who: conn, N: 1 << 20} }

func say(conn int, l ...api.Record) api.Act {
	a := api.Act{Kind: api.BFeed, Who: conn}
	for _, r := range l {
		a.Data += record.Bytes(r)
	}
	return a
}

func out(id int, s string) api.Record { return api.Record{Type: api.TStdout, ID: id, Content: s} }

func end(id int) api.Record { return kind.End(id, api.End{}) }

// P27.1: what isn't taken is handed over again, ahead of what comes newly, one request after the other.
func TestHandOver(t *testing.T) {
	w := New(conf.Small())
	do(t, w, connect(1), feed(1, get+put("one")+get[:9]), feed(1, get[9:]+"G"))
	for n := 1; n <= 3; n++ {
		if told := w.Gate().Told(); len(told) != n || told[n-1].Number != n {
			t.Fatalf("P27.1: %v", told)
		}
		do(t, w, take(1), say(1, out(1, typed), end(1)))
	}
	if told := w.Gate().Told(); len(told) != 3 || told[1].Request.Body != "one" || told[2].Request.Method != "GET" || !w.Gate().Client(1).Began() {
		t.Errorf("P27.1: %v", told)
	}
	do(t, w, drain(1))
	if got := w.Got(1, 1); got != strings.Repeat(status+"0\r\n\r\n", 3) || w.Got(1, 0) != "" || w.Got(1, 2) != "" || w.Got(0, 1) != "" || w.Got(-1, -1) != "" {
		t.Errorf("P27.1: %q", got)
	}
}

// P27.1: at most 4000 bytes wait; they go with their client.
func TestRest(t *testing.T) {
	w := New(conf.Small())
	do(t, w, connect(0), feed(0, get))
	fill := put(strings.Repeat("x", 4000-len(put(""))-len(get)))
	do(t, w, feed(0, fill[:100]), feed(0, fill[100:]+get+"lost"), feed(0, "lost"))
	for range 3 {
		do(t, w, take(1), say(1, out(1, typed), end(1)))
	}
	if told := w.Gate().Told(); len(told) != 3 || told[2].Request.Method != "GET" || w.Gate().Client(0).Began() {
		t.Errorf("P27.1: %v", told)
	}
	do(t, w, feed(0, get+get), api.Act{Kind: api.AClose}, connect(0))
	if told := w.Gate().Told(); len(told) != 4 || w.Gate().Client(0).Began() {
		t.Errorf("P27.1: the next one is handed over what was another one's: %v", told)
	}
	// gone as it was over, while bytes wait
	do(t, w, feed(0, "GET / HTTP/1.0\r\n\r\n"+get), drain(0), take(1), say(1, end(1), end(2)), drain(0))
	if w.Gate().Client(0) != nil {
		t.Fatal("the client isn't gone")
	}
	do(t, w, connect(0), api.Act{Kind: api.ATick})
	if w.Gate().Client(0).Began() || len(w.Gate().Told()) != 5 {
		t.Errorf("P27.1: the next one is handed over what was another one's")
	}
}

// P27.1: what is got in each turn, said on each connection, and the marks.
func TestGotSaidEnds(t *testing.T) {
	w := New(conf.Small())
	do(t, w, connect(0), feed(0, get), connect(1), feed(1, get))
	all := frames.Build(1, nil, "")
	do(t, w, api.Act{Kind: api.BDrain, Who: 1, N: 5}, api.Act{Kind: api.BDrain, Who: 1, N: 11})
	if got := w.Said(1); got != record.Bytes(all[0]) {
		t.Errorf("P27.1: Said %q", got)
	}
	do(t, w, take(1))
	n := len(w.Said(1))
	do(t, w, say(1, out(2, typed), end(2), end(1)))
	do(t, w, drain(0), feed(0, get), take(1))
	m := len(w.Said(1))
	do(t, w, api.Act{Kind: api.BFeed, Who: 1, Data: record.Bytes(end(1)) + "\x02"}) // the connection is closed
	if got := w.Ends(1); !slices.Equal(got, []api.Mark{{ID: 2, At: n}, {ID: 1, At: n}, {ID: 1, At: m}}) || m <= n {
		t.Errorf("P27.1: Ends %v, %d, %d", got, n, m)
	}
	if err := w.Do(take(1)); !errors.Is(err, api.ErrPlace) || len(w.Said(1)) != m {
		t.Errorf("P27.1: a closed connection: %v", err)
	}
	w.Ends(1)[0].ID = 9
	if w.Ends(1)[0].ID != 2 || w.Ends(2) != nil || w.Said(2) != "" || w.Ends(-1) != nil {
		t.Error("P27.1: memory is shared, or something of nothing")
	}
	do(t, w, api.Act{Kind: api.AClose, Who: 1}, connect(1), feed(1, "\n"), drain(1))
	if w.Got(1, 1) != "" || !strings.Contains(w.Got(1, 2), " 400 ") {
		t.Errorf("P27.1: turns: %q, %q", w.Got(1, 1), w.Got(1, 2))
	}
}

// P27.1: the gate's errors; nothing is changed by them.
func TestErrors(t *testing.T) {
	w := New(conf.Small())
	do(t, w, connect(0))
	for _, c := range []struct {
		a    api.Act
		want error
	}{
		{connect(4), api.ErrPlace}, {connect(-1), api.ErrPlace}, {connect(0), api.ErrBusy}, {feed(1, get), api.ErrPlace}, {feed(9, get), api.ErrPlace}, {drain(1), api.ErrPlace}, {drain(-1), api.ErrPlace},
		{take(1), api.ErrPlace}, {say(1, end(1)), api.ErrPlace}, {api.Act{Kind: api.BClose, Who: 1}, api.ErrPlace}, {api.Act{}, api.ErrForm}, {api.Act{Kind: 10}, api.ErrForm}, {api.Act{Kind: api.AClose, Who: 2}, api.ErrPlace},
	} {
		var no api.Errno
		if err := w.Do(c.a); !errors.As(err, &no) || no != c.want {
			t.Errorf("P27.1: %v: %v", c.a, err)
		}
	}
	if !w.Right() || len(w.Gate().Told()) != 0 {
		t.Error("P27.1: something is changed")
	}
}

// P27.2: calm: what was asked for is answered, by its body; what was cut is ended.
func TestCalm(t *testing.T) {
	w := New(conf.Small())
	do(t, w, connect(0), connect(1), feed(0, put("one")+put("")+put("three")+"GET /%00 HTTP/1.0\r\n\r\n"), feed(1, put(strings.Repeat("b", 4000))))
	w.Calm(0)
	w.Calm(-1)
	if w.Said(1) != "" {
		t.Errorf("P27.2: no steps: %q", w.Said(1))
	}
	w.Calm(10)
	r := api.Request{Method: "PUT", Minor: 1}
	want := model.Whole(conf.Small(), r, typed+"one") + model.Whole(conf.Small(), r, typed) + model.Whole(conf.Small(), r, typed+"three") + model.Refused(api.Request{}, 400)
	if got := w.Got(0, 1); got != want {
		t.Errorf("P27.2: %q, not %q", got, want)
	}
	if got := w.Got(1, 1); got != model.Whole(conf.Small(), r, typed+strings.Repeat("b", 4000)) {
		t.Errorf("P27.2: %d bytes", len(got))
	}
	do(t, w, feed(1, put("x")), take(1), connect(2), feed(2, get), api.Act{Kind: api.BDrain, Who: 1, N: 20})
	do(t, w, api.Act{Kind: api.AClose, Who: 1}, api.Act{Kind: api.AClose, Who: 2})
	if len(w.Gate().Pool().Mux(1).Live()) != 2 {
		t.Error("P27.2: not Live")
	}
	w.Calm(1)
	if len(w.Gate().Pool().Mux(1).Live()) != 0 || !w.Right() {
		t.Error("P27.2: cut requests aren't ended")
	}
	do(t, w, api.Act{Kind: api.AStop})
	w.Calm(1)
	if !w.Gate().Empty() {
		t.Error("P27.2: a stop doesn't come to its end")
	}
}

// P27.2: of a request that was cut the end alone is said, be it whole or not.
func TestCalmCut(t *testing.T) {
	for _, n := range []int{1, 1 << 20} {
		w := New(conf.Small())
		do(t, w, connect(0), feed(0, get), api.Act{Kind: api.BDrain, Who: 1, N: n}, say(1, out(1, "")))
		do(t, w, api.Act{Kind: api.AClose})
		w.Calm(1)
		if got := w.Gate().Pool().Conns(); !slices.Equal(got, []int{1}) || len(w.Ends(1)) != 1 {
			t.Errorf("P27.2: more is said than the end: %v, %v", got, w.Ends(1))
		}
	}
}

// P27.2: 4000 bytes of each, in each step.
func TestCalmDrains(t *testing.T) {
	w := New(conf.Small())
	do(t, w, connect(0), connect(1), feed(0, put(strings.Repeat("a", 3900))), feed(1, put(strings.Repeat("b", 3900))))
	for n := 1; n <= 2; n++ {
		w.Calm(1)
		if got := len(w.Said(1)); got != n*4000 {
			t.Errorf("P27.2: step %d: %d bytes", n, got)
		}
	}
	w.Calm(1) // both are answered
	waits := w.Gate().Client(0).Waits()
	w.Calm(1)
	if got := len(w.Got(0, 1)); waits <= 4000 || got != 4000 {
		t.Errorf("P27.2: %d bytes of %d", got, waits)
	}
}

// P27.2: each step is a tick, 300 at most; answers come in one BFeed, by id.
func TestCalmSteps(t *testing.T) {
	c := conf.Small()
	c.Timeout = 100
	w := New(c)
	do(t, w, connect(0), connect(1), feed(0, get), feed(1, get), take(1))
	w.Calm(1)
	n := len(w.Said(1))
	if got := w.Ends(1); !slices.Equal(got, []api.Mark{{ID: 1, At: n}, {ID: 2, At: n}}) {
		t.Errorf("P27.2: %v", got)
	}
	// a backend that said the end of its output already: what Calm says closes the connection
	do(t, w, feed(0, get), take(1), say(1, out(1, "")))
	w.Calm(1)
	if got := w.Gate().Told()[2]; got.Outcome != api.OError || got.Status != 502 {
		t.Errorf("P27.2: %v", got)
	}
	slow := New(c)
	do(t, slow, connect(0), feed(0, get), api.Act{Kind: api.BDrain, Who: 1, N: 1})
	slow.Calm(1 << 40)
	if !slow.Right() || slow.Gate().Told()[0].Outcome != api.OAnswer {
		t.Errorf("P27.2: %v", slow.Gate().Told())
	}
}

// P27.3: what makes a world wrong.
func TestWrong(t *testing.T) {
	fresh := func() *World {
		w := New(conf.Small())
		do(t, w, connect(0), feed(0, get+get), take(1), say(1, out(1, typed), end(1)), take(1))
		if !w.Right() {
			t.Fatal("P27.3: it isn't right")
		}
		return w
	}
	if !New(api.Conf{}).Right() {
		t.Error("P27.3: a new one")
	}
	for name, spoil := range map[string]func(*World){
		"said":     func(w *World) { w.said[1] = append(w.said[1], 2) },
		"reuse":    func(w *World) { w.ends[1] = nil },
		"outcomes": func(w *World) { w.outcomes[0].status = 201 },
	} {
		w := fresh()
		if spoil(w); w.Right() {
			t.Errorf("P27.3: %s isn't looked at", name)
		}
	}
	w := fresh()
	w.outcomes[1].outcome = api.OCut
	w.Do(api.Act{Kind: api.ATick})
	if w.Right() {
		t.Error("P27.3: an outcome that was another one")
	}
}

// play: acts by a seed: clients that send requests in parts, backends that take and answer in parts, ticks.
func play(seed int64, other string) *World {
	rnd := rand.New(rand.NewSource(seed))
	c := conf.Small()
	c.Conns, c.IDs, c.Timeout, c.Out = 1+rnd.Intn(2), 1+rnd.Intn(3), 6, 1000+rnd.Intn(3000)
	w := New(c)
	bodies := []string{"", "a", strings.Repeat("b", 700), strings.Repeat("c", 1500)}
	sent := [api.MaxClients]string{}
	for range 150 {
		i := rnd.Intn(api.MaxClients)
		conn := 1 + rnd.Intn(3)
		switch k := rnd.Intn(12); {
		case k == 0 && rnd.Intn(4) == 0:
			w.Do(api.Act{Kind: api.AClose, Who: i})
			sent[i] = ""
		case k < 2:
			w.Do(connect(i))
		case k < 6:
			if sent[i] == "" {
				body := bodies[rnd.Intn(len(bodies))]
				sent[i] = []string{get, put(body), put(body) + get, "GET /%00 HTTP/1.1\r\nHost: a\r\n\r\n", "GET / HTTP/1.0\r\n\r\n"}[rnd.Intn(5)]
				if i == 3 && other != "" {
					sent[i] = strings.NewReplacer("b", other, "c", other).Replace(put(body))
				}
			}
			n := min(len(sent[i]), 1+rnd.Intn(900))
			w.Do(feed(i, sent[i][:n]))
			sent[i] = sent[i][n:]
		case k < 7:
			w.Do(api.Act{Kind: api.ADrain, Who: i, N: rnd.Intn(2000)})
		case k < 9:
			w.Do(api.Act{Kind: api.BDrain, Who: conn, N: rnd.Intn(1500)})
		case k < 10 && rnd.Intn(3) == 0:
			w.Do(api.Act{Kind: api.ATick})
		case k < 11 && rnd.Intn(20) == 0:
			w.Do(api.Act{Kind: api.BClose, Who: conn})
		default:
			if s := w.owed(conn); s != "" {
				w.Do(api.Act{Kind: api.BFeed, Who: conn, Data: s})
			}
		}
	}
	return w
}

// got: what a client should have got at most in a turn, by what was told of its requests.
func got(c api.Conf, l []api.Told, v visit) (string, bool) {
	s := ""
	for _, x := range l {
		if x.Client != v.client || x.Turn != v.turn {
			continue
		}
		switch x.Outcome {
		case api.OAnswer:
			s += model.Whole(c, x.Request, typed+x.Request.Body)
		case api.OError:
			s += model.Refused(x.Request, x.Status)
		default:
			return s, false
		}
	}
	return s, true
}

// P40.1, P40.2, P40.4, P40.5, P27.4: whatever is played, all is right; with ticks that go on all has an outcome.
func TestPlay(t *testing.T) {
	answered := 0
	for seed := range int64(300) {
		w := play(seed, "")
		if !w.Right() {
			t.Fatalf("P40.4: seed %d: it isn't right", seed)
		}
		w.Calm(40)
		told := w.Gate().Told()
		for _, x := range told {
			if x.Outcome == 0 {
				t.Errorf("P40.5: seed %d: %v has no outcome", seed, x)
			}
			if x.Outcome == api.OAnswer {
				answered++
			}
		}
		for v, s := range w.got {
			want, whole := got(w.Gate().Conf(), told, v)
			is := strings.HasPrefix(want, string(s)) || !whole && strings.HasPrefix(string(s), want)
			if !is {
				t.Errorf("P40.1: seed %d: %v got %q, not %q", seed, v, s, want)
			}
		}
		backendsTold(t, seed, w, told)
		do(t, w, api.Act{Kind: api.AStop})
		for i := range api.MaxClients {
			w.Do(api.Act{Kind: api.AClose, Who: i})
		}
		w.Calm(20)
		if !w.Gate().Empty() || !w.Right() {
			t.Errorf("P40.5: seed %d: a stop doesn't come to its end", seed)
		}
	}
	if answered < 300 {
		t.Errorf("only %d answers: nothing is tested", answered)
	}
}

// backendsTold: P40.2: variables and bodies are those of the requests, in their order.
func backendsTold(t *testing.T, seed int64, w *World, told []api.Told) {
	t.Helper()
	for conn, said := range w.said {
		l, err := judge.Read(string(said))
		if err != nil {
			t.Errorf("P40.2: seed %d: %v", seed, err)
		}
		for _, q := range l {
			if !q.Whole {
				continue
			}
			is := slices.ContainsFunc(told, func(x api.Told) bool {
				v, _, _ := model.Vars(w.Gate().Conf(), x.Client, x.Request)
				return x.Conn == conn && x.ID == q.ID && x.Request.Body == q.Body && slices.Equal(v, q.Pairs)
			})
			if !is {
				t.Errorf("P40.2: seed %d: a backend got %v", seed, q)
			}
		}
	}
}

// P40.6: the same makes the same.
func TestSame(t *testing.T) {
	for seed := range int64(30) {
		a, b := play(seed, ""), play(seed, "")
		if !reflect.DeepEqual(a.got, b.got) || !reflect.DeepEqual(a.said, b.said) || !reflect.DeepEqual(a.ends, b.ends) || !reflect.DeepEqual(a.Gate().Told(), b.Gate().Told()) {
			t.Errorf("P40.6: seed %d", seed)
		}
	}
}

// P40.3: what another client sends, and is answered, is all the same to a client.
func TestApart(t *testing.T) {
	for seed := range int64(60) {
		a, b := play(seed, "y"), play(seed, "z")
		for v, s := range a.got {
			if v.client != 3 && string(s) != string(b.got[v]) {
				t.Errorf("P40.3: seed %d: %v", seed, v)
			}
		}
	}
}

// P40.1: how a client's bytes are cut is all the same.
func TestCuts(t *testing.T) {
	s := put("one") + get + "\r\n" + put(strings.Repeat("x", 600)) + "GET /a HTTP/1.1\r\nHost: a\r\nConnection: close\r\n\r\n"
	c := conf.Small()
	want := ""
	l, _ := model.Requests(c, s)
	for _, r := range l {
		want += model.Whole(c, r, typed+r.Body)
	}
	for _, size := range []int{1, 2, 50, 333, len(s)} {
		w := New(c)
		do(t, w, connect(0))
		for i := 0; i < len(s); i += size {
			do(t, w, feed(0, s[i:min(i+size, len(s))]))
			if i%7 == 0 {
				w.Calm(1)
			}
		}
		w.Calm(9)
		if got := w.Got(0, 1); got != want || w.Gate().Client(0) != nil || len(l) != 4 || request.Keep(l[3]) {
			t.Errorf("P40.1: cut by %d: %q", size, got)
		}
	}
}

// P40.6, P40.4: whatever is handed over, each call comes back, and all stays right.
func TestTotal(t *testing.T) {
	pieces := []string{get, "GET ", "/x HTTP/1.1\r\n", "Host: a\r\n", "\r\n", "\n", "Transfer-Encoding: chunked\r\n", "3\r\nabc\r\n", "0\r\n\r\n", "Expect: 100-continue\r\n", "Content-Length: 3\r\n", "\x00", "HEAD ", "/%2e%2e HTTP/1.0\r\n", strings.Repeat("x", 900)}
	for seed := range int64(200) {
		rnd := rand.New(rand.NewSource(seed))
		c := conf.Small()
		c.Timeout, c.IDs, c.Conns, c.Out = 1+rnd.Intn(4), 1+rnd.Intn(2), 1+rnd.Intn(2), 500+rnd.Intn(500)
		w := New(c)
		for range 200 {
			a := api.Act{Kind: rnd.Intn(11), Who: rnd.Intn(6) - 1, N: rnd.Intn(300) - 10}
			switch a.Kind {
			case api.AStop:
				if rnd.Intn(30) > 0 {
					a.Kind = api.AConnect
				}
			case api.AFeed:
				a.Data = pieces[rnd.Intn(len(pieces))] + pieces[rnd.Intn(len(pieces))]
			case api.BFeed:
				id := rnd.Intn(3)
				l := []api.Record{out(id, typed), out(id, "x\n"), out(id, ""), end(id), kind.End(id, api.End{Protocol: rnd.Intn(5)}), {Type: api.TStderr, ID: id}, kind.Unknown(7), out(id, strings.Repeat("y", 600)), {Type: rnd.Intn(13), ID: id}}
				a.Data = record.Bytes(l[rnd.Intn(len(l))]) + record.Bytes(l[rnd.Intn(len(l))])
				if rnd.Intn(20) == 0 {
					a.Data = a.Data[rnd.Intn(len(a.Data)+1):]
				}
			}
			w.Do(a)
			if !w.Right() {
				t.Fatalf("P40.4: seed %d: act %v: it isn't right any more", seed, a)
			}
		}
		w.Calm(30)
		w.Do(api.Act{Kind: api.AStop})
		w.Calm(30)
		for _, x := range w.Gate().Told() {
			if x.Outcome == 0 {
				t.Errorf("P40.5: seed %d: %v has no outcome", seed, x)
			}
		}
		if !w.Right() {
			t.Errorf("P40.4: seed %d: it isn't right in the end", seed)
		}
	}
}
