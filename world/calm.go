package world

import (
	"conduit/api"
	"conduit/judge"
	"conduit/kind"
	"conduit/record"
)

const (
	maxSteps = 300
	drained  = 4000 // bytes that are taken at once
)

// Calm lets clients take, backends take and answer, and time pass, so many times.
func (w *World) Calm(steps int) {
	for range min(max(steps, 0), maxSteps) {
		w.calm()
	}
}

// calm is one step. (An act that is refused, as what it is of is gone, is no fault.)
func (w *World) calm() {
	for i := range w.rest {
		if w.gate.Client(i) != nil {
			w.Do(api.Act{Kind: api.ADrain, Who: i, N: drained})
		}
	}
	for _, conn := range w.gate.Pool().Conns() {
		w.Do(api.Act{Kind: api.BDrain, Who: conn, N: drained})
		if s := w.owed(conn); s != "" {
			w.Do(api.Act{Kind: api.BFeed, Who: conn, Data: s})
		}
	}
	w.Do(api.Act{Kind: api.ATick})
}

// owed: what a backend says of the requests that it was told and hasn't answered, by id.
func (w *World) owed(conn int) string {
	l, err := judge.Read(string(w.said[conn]))
	if err != nil {
		return ""
	}
	var count [api.MaxIDs + 1]int // of each id: requests less ends
	var last [api.MaxIDs + 1]api.Sent
	for _, q := range l {
		if q.ID < len(count) {
			count[q.ID]++
			last[q.ID] = q
		}
	}
	for _, m := range w.ends[conn] {
		count[m.ID]--
	}
	out := ""
	for id, n := range count {
		if n == 1 && (last[id].Whole || last[id].Cut) {
			out += reply(last[id])
		}
	}
	return out
}

// reply: what a backend says of a request: its body comes back; of one that was cut its end alone.
func reply(q api.Sent) string {
	end := record.Bytes(kind.End(q.ID, api.End{}))
	if q.Cut {
		return end
	}
	said := api.Record{Type: api.TStdout, ID: q.ID, Content: "Content-Type: text/plain\n\n" + q.Body}
	return record.Bytes(said) + record.Bytes(api.Record{Type: api.TStdout, ID: q.ID}) + end
}
