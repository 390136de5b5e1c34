package world

import (
	"conduit/api"
	"conduit/judge"
)

// Right tells whether all is as it must be: what was said, what was told, and that nothing grows.
func (w *World) Right() bool {
	w.note()
	return !w.changed && w.rightSaid() && w.rightTold() && w.rightBounds()
}

func (w *World) rightSaid() bool {
	for conn, said := range w.said {
		if !judge.Right(string(said)) || !judge.Reuse(string(said), w.ends[conn]) {
			return false
		}
	}
	return true
}

// rightTold: each client's requests, Number by Number; an answer came from somewhere.
func (w *World) rightTold() bool {
	count := map[visit]int{}
	for _, t := range w.gate.Told() {
		v := visit{t.Client, t.Turn}
		count[v]++
		if t.Number != count[v] || t.Outcome == api.OAnswer && t.Conn <= 0 {
			return false
		}
	}
	return true
}

func (w *World) rightBounds() bool {
	c, p := w.gate.Conf(), w.gate.Pool()
	var conns [api.MaxBackend]int
	for _, conn := range p.Conns() {
		conns[p.Backend(conn)]++
		if len(p.Mux(conn).Live()) > c.IDs {
			return false
		}
	}
	for _, n := range conns {
		if n > c.Conns {
			return false
		}
	}
	for i := range w.turns {
		if x := w.gate.Client(i); x != nil && x.Waits() > c.Out {
			return false
		}
	}
	return true
}
