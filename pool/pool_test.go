package pool

import (
	"errors"
	"slices"
	"testing"

	"conduit/api"
	"conduit/kind"
	"conduit/record"
)

func open(t *testing.T, p *Pool, backend, conn, id int) {
	t.Helper()
	if c, i, err := p.Open(backend, nil, ""); c != conn || i != id || err != nil {
		t.Errorf("P21.1: Open to %d: %d, %d, %v, not %d, %d", backend, c, i, err, conn, id)
	}
}

func full(t *testing.T, p *Pool, backend int) {
	t.Helper()
	if c, i, err := p.Open(backend, nil, ""); c != 0 || i != 0 || !errors.Is(err, api.ErrFull) {
		t.Errorf("P21.1: Open to %d: %d, %d, %v", backend, c, i, err)
	}
}

// ends ends an id of a connection.
func ends(t *testing.T, p *Pool, conn, id int) {
	t.Helper()
	m := p.Mux(conn)
	for m.Pending() {
		m.Drain(1000)
	}
	if _, err := m.Feed(record.Bytes(kind.End(id, api.End{}))); err != nil {
		t.Fatalf("an end: %v", err)
	}
}

func conns(t *testing.T, p *Pool, want ...int) {
	t.Helper()
	if got := p.Conns(); !slices.Equal(got, want) {
		t.Errorf("P21.1: Conns: %v, not %v", got, want)
	}
}

// P21.1: an idle one, else a new one, else the one with the fewest ids, the least number of like ones.
func TestOpen(t *testing.T) {
	p := New(2, 3, 2)
	conns(t, p)
	open(t, p, 0, 1, 1)
	open(t, p, 1, 2, 1)
	open(t, p, 0, 3, 1)
	open(t, p, 0, 4, 1)
	conns(t, p, 1, 2, 3, 4)
	open(t, p, 0, 1, 2)
	ends(t, p, 3, 1)
	open(t, p, 0, 3, 1)
	open(t, p, 0, 3, 2)
	open(t, p, 0, 4, 2)
	full(t, p, 0)
	open(t, p, 1, 5, 1)
	ends(t, p, 4, 1)
	ends(t, p, 1, 1)
	ends(t, p, 1, 2)
	open(t, p, 0, 1, 1)
	open(t, p, 0, 1, 2) // of one id each: the least number
	open(t, p, 0, 4, 1)
	full(t, p, 0)
	full(t, p, 2)
	full(t, p, -1)
	for conn, want := range map[int]int{0: -1, 1: 0, 2: 1, 3: 0, 4: 0, 5: 1, 6: -1, -1: -1} {
		if got := p.Backend(conn); got != want || (p.Mux(conn) == nil) != (want < 0) {
			t.Errorf("P21.1: Backend %d: %d", conn, got)
		}
	}
}

// P21.1: an idle connection is taken ahead of a new one, the least number of several.
func TestIdle(t *testing.T) {
	p := New(1, 4, 8)
	open(t, p, 0, 1, 1)
	open(t, p, 0, 2, 1)
	open(t, p, 0, 3, 1)
	ends(t, p, 2, 1)
	ends(t, p, 3, 1)
	open(t, p, 0, 2, 1)
	open(t, p, 0, 3, 1)
	open(t, p, 0, 4, 1)
	open(t, p, 0, 1, 2)
	conns(t, p, 1, 2, 3, 4)
}

// P21.1: closed ones are gone, and no number comes twice.
func TestClose(t *testing.T) {
	p := New(1, 2, 2)
	open(t, p, 0, 1, 1)
	open(t, p, 0, 2, 1)
	open(t, p, 0, 1, 2)
	if got := p.Close(1); !slices.Equal(got, []int{1, 2}) || p.Mux(1) != nil || p.Backend(1) != -1 {
		t.Errorf("P21.1: Close: %v", got)
	}
	if p.Close(1) != nil || p.Close(0) != nil || p.Close(9) != nil {
		t.Error("P21.1: Close of none")
	}
	conns(t, p, 2)
	open(t, p, 0, 3, 1)
	p.Close(2)
	p.Close(3)
	open(t, p, 0, 4, 1)
	p.Conns()[0] = 9
	conns(t, p, 4)
}

// P21.1: dead ones are passed over, and not counted.
func TestDead(t *testing.T) {
	p := New(1, 1, 1)
	open(t, p, 0, 1, 1)
	full(t, p, 0)
	p.Mux(1).Feed("\x02")
	open(t, p, 0, 2, 1)
	full(t, p, 0)
	conns(t, p, 1, 2)
	if got := p.Close(1); !slices.Equal(got, []int{1}) {
		t.Errorf("P21.1: Close of a dead one: %v", got)
	}
}

// P21.1, P21.2: numbers are held: one backend, one connection at least.
func TestHeld(t *testing.T) {
	p := New(0, -1, 0)
	open(t, p, 0, 1, 1)
	full(t, p, 0)
	full(t, p, 1)
	p = New(9, 9, 1)
	for conn := 1; conn <= api.MaxConns; conn++ {
		open(t, p, 1, conn, 1)
	}
	full(t, p, 1)
	full(t, p, 2)
}
