package gate

import (
	"errors"
	"maps"

	"conduit/api"
	"conduit/fault"
	"conduit/mux"
	"conduit/request"
)

func (g *Gate) doBackend(a api.Act) (int, string, error) {
	m := g.pool.Mux(a.Who)
	if m == nil {
		return 0, "", fault.Of(api.ErrPlace, "no such connection")
	}
	switch a.Kind {
	case api.BFeed:
		g.said(a.Who, m, a.Data)
		return len(a.Data), "", nil
	case api.BDrain:
		return 0, m.Drain(a.N), nil
	}
	g.lose(a.Who)
	return 0, "", nil
}

// said takes what a backend said on a connection; one that says what it may not is let go of.
func (g *Gate) said(conn int, m *mux.Mux, data string) {
	events, err := m.Feed(data)
	for _, e := range events {
		j := g.jobs[place{conn, e.ID}]
		switch {
		case j == nil || j.over: // nobody waits for it
		case e.Ended:
			g.done(j, e.End)
		default:
			g.output(j, e.Out)
		}
	}
	var no api.Errno
	if errors.As(err, &no) {
		g.lose(conn)
	}
}

func (g *Gate) output(j *job, s string) {
	text, err := j.answer.Out(s)
	if errors.Is(err, api.ErrForm) || errors.Is(err, api.ErrLarge) {
		g.fail(j, 502)
		g.abort(j)
		return
	}
	if !g.seats[j.seat].client.Tell(text) {
		g.cut(j)
	}
}

// done: the backend says that a request is done.
func (g *Gate) done(j *job, e api.End) {
	switch e.Protocol {
	case 0:
		text, _ := j.answer.End()
		if j.answer.Begun() {
			g.last(j, text, api.OAnswer, j.answer.Status(), j.answer.Keeps())
		} else {
			g.last(j, text, api.OError, j.answer.Status(), request.Keep(j.request))
		}
	case 1:
		fallthrough
	case 2:
		g.fail(j, 503)
	default:
		g.fail(j, 502)
	}
}

// lose lets a connection go, and whatever is under way on it.
func (g *Gate) lose(conn int) {
	for _, id := range g.pool.Close(conn) {
		if j := g.jobs[place{conn, id}]; j != nil && !j.over {
			g.fail(j, 502)
		}
	}
	maps.DeleteFunc(g.jobs, func(p place, _ *job) bool { return p.conn == conn })
}

// tick: requests that take too long fail, and connections whose backend keeps an id too long are let go.
func (g *Gate) tick() {
	g.now++
	for i := range g.seats {
		if j := g.seats[i].job; j != nil && g.late(j) {
			g.fail(j, 504)
			g.abort(j)
		}
	}
	for _, conn := range g.pool.Conns() {
		if g.stuck(conn) {
			g.lose(conn)
		}
	}
}

func (g *Gate) late(j *job) bool { return g.now-j.since >= g.conf.Timeout }

// stuck tells whether an id of a connection is in use, though its request was over long ago.
func (g *Gate) stuck(conn int) bool {
	for _, id := range g.pool.Mux(conn).Live() {
		if j := g.jobs[place{conn, id}]; j != nil && j.over && g.late(j) {
			return true
		}
	}
	return false
}
