package gate

import (
	"errors"
	"strings"

	"conduit/answer"
	"conduit/api"
	"conduit/path"
	"conduit/reply"
	"conduit/request"
	"conduit/route"
	"conduit/start"
	"conduit/vars"
	"conduit/ware"
)

// job: a request that came, from then on till its id is free.
type job struct {
	seat    int
	told    int // its place in told
	place   place
	request api.Request // as it was read
	answer  *answer.Answer
	over    bool
	since   int // the tick at which it was opened; of one that is over, at which it was over
}

// came takes a request that was read: it is handed to a backend, or refused.
func (g *Gate) came(i int, r api.Request, status int) {
	s := &g.seats[i]
	s.number++
	j := &job{seat: i, told: len(g.told), request: r}
	g.told = append(g.told, api.Told{Client: i, Turn: s.turn, Number: s.number, Request: r})
	if status > 0 {
		g.refuse(j, status, false)
	} else if status = g.open(j); status > 0 {
		g.refuse(j, status, request.Keep(r) && !g.stop)
	}
}

func (g *Gate) refuse(j *job, status int, keep bool) {
	g.last(j, reply.Plain(j.request, status, keep), api.OError, status, keep)
}

// open hands a request to a backend: 0, or the status that refuses it.
func (g *Gate) open(j *job) int {
	if g.stop {
		return 503
	}
	raw, _ := start.Split(j.request.Target)
	p, err := path.Clean(raw)
	if errors.Is(err, api.ErrForm) {
		return 400
	}
	t, ok := route.Choose(g.conf.Rules, host(j.request), p)
	if !ok {
		return 404
	}
	r := g.conf.Rules[t.Rule]
	q, t, err := ware.Apply(r.Wares, j.request, t)
	if err != nil {
		return ware.Status(err)
	}
	conn, id, err := g.pool.Open(r.Backend, vars.Build(g.conf, j.seat, q, t), q.Body)
	if err != nil {
		return 503
	}
	j.place, j.since = place{conn, id}, g.now
	j.answer = answer.New(j.request, g.conf.Head, g.stop)
	g.jobs[j.place], g.seats[j.seat].job = j, j
	g.told[j.told].Conn, g.told[j.told].ID = conn, id
	return 0
}

// host: the first Host field. (What was read has fields whose names are tokens.)
func host(r api.Request) string {
	for _, p := range r.Fields {
		if strings.ToLower(p.Name) == "host" {
			return p.Value
		}
	}
	return ""
}

// last tells the client the end of its answer: then the request has that outcome, if it could be told.
func (g *Gate) last(j *job, text string, outcome, status int, keep bool) {
	if !g.seats[j.seat].client.Tell(text) {
		g.cut(j)
		return
	}
	g.settle(j, outcome, status, keep)
}

// cut ends a request in the midst.
func (g *Gate) cut(j *job) {
	g.settle(j, api.OCut, 0, false)
	g.abort(j)
}

// fail ends a request by a status; one whose answer was begun is cut.
func (g *Gate) fail(j *job, status int) {
	text, ok := j.answer.Fail(status)
	if !ok {
		g.settle(j, api.OCut, 0, false)
		return
	}
	g.last(j, text, api.OError, status, request.Keep(j.request))
}

// settle: the outcome of a request; its client goes on, or ends.
func (g *Gate) settle(j *job, outcome, status int, keep bool) {
	g.told[j.told].Outcome, g.told[j.told].Status = outcome, status
	j.over, j.since = true, g.now
	s := &g.seats[j.seat]
	s.job = nil
	if s.client != nil {
		s.client.Done(keep && !g.stop)
		g.leave(j.seat)
	}
}

// abort tells the backend that nobody waits for its answer.
func (g *Gate) abort(j *job) {
	if m := g.pool.Mux(j.place.conn); m != nil {
		m.Abort(j.place.id)
	}
}
