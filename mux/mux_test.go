package mux

import (
	"errors"
	"reflect"
	"slices"
	"strings"
	"testing"

	"conduit/api"
	"conduit/cutter"
	"conduit/frames"
	"conduit/kind"
	"conduit/record"
)

func open(t *testing.T, m *Mux, body string, want int) {
	t.Helper()
	if id, err := m.Open([]api.Pair{{Name: "B", Value: body}}, body); id != want || err != nil {
		t.Fatalf("P20.1: Open: %d, %v", id, err)
	}
}

func bytesOf(l ...api.Record) string {
	s := ""
	for _, r := range l {
		s += record.Bytes(r)
	}
	return s
}

func live(t *testing.T, m *Mux, want ...int) {
	t.Helper()
	if got := m.Live(); !slices.Equal(got, want) {
		t.Errorf("P20.1: Live: %v, not %v", got, want)
	}
}

func out(id int, s string) api.Record { return api.Record{Type: api.TStdout, ID: id, Content: s} }

func end(id int) api.Record { return kind.End(id, api.End{}) }

func feed(t *testing.T, m *Mux, s string, want ...api.Event) {
	t.Helper()
	if got, err := m.Feed(s); !slices.Equal(got, want) || err != nil {
		t.Errorf("P20.2: Feed: %v, %v", got, err)
	}
}

func ended(id int) api.Event { return api.Event{ID: id, Ended: true} }

// P20.1: the least id that isn't Live, as long as there is one.
func TestOpen(t *testing.T) {
	for ids, want := range map[int]int{-3: 1, 0: 1, 1: 1, 2: 2, 8: 8, 9: 8, 1 << 40: 8} {
		m := New(ids)
		for id := 1; id <= want; id++ {
			open(t, m, "", id)
		}
		if id, err := m.Open(nil, ""); id != 0 || !errors.Is(err, api.ErrFull) || len(m.Live()) != want {
			t.Errorf("P20.1: %d ids: %d, %v", ids, id, err)
		}
	}
	m := New(4)
	for id := 1; id <= 4; id++ {
		open(t, m, "", id)
	}
	m.Drain(1 << 20)
	feed(t, m, bytesOf(end(3), end(2)), ended(3), ended(2))
	live(t, m, 1, 4)
	open(t, m, "", 2)
	open(t, m, "", 3)
	if got := m.Ends(); !slices.Equal(got, []int{3, 2}) {
		t.Errorf("P20.1: Ends: %v", got)
	}
	m.Ends()[0] = 9
	if m.Ends()[0] != 3 {
		t.Error("memory is shared")
	}
}

// P20.1, P20.3: records by turns, and all of each lane's, whatever the parts that are drained.
func TestTurns(t *testing.T) {
	long := strings.Repeat("x", 1300)
	for _, size := range []int{1, 3, 8, 100, 1 << 20} {
		m := New(3)
		open(t, m, long, 1)
		open(t, m, "", 2)
		open(t, m, long, 3)
		s := ""
		for m.Pending() {
			part := m.Drain(size)
			if len(part) != size && m.Pending() || part == "" {
				t.Fatalf("P20.1: %d bytes drained of %d", len(part), size)
			}
			s += part
		}
		records, err := cutter.New(api.MaxRecord).Feed(s)
		if err != nil {
			t.Fatalf("P20.1: %v", err)
		}
		lanes, order := map[int][]api.Record{}, ""
		for _, r := range records {
			lanes[r.ID] = append(lanes[r.ID], r)
			order += string(rune('0' + r.ID))
		}
		if want := byTurns(lanes); order != want {
			t.Errorf("P20.1: turns: %s, not %s", order, want)
		}
		for id, body := range map[int]string{1: long, 2: "", 3: long} {
			if want := frames.Build(id, []api.Pair{{Name: "B", Value: body}}, body); !slices.Equal(lanes[id], want) {
				t.Errorf("P20.3: id %d: %v", id, lanes[id])
			}
		}
		if m.Drain(10) != "" || m.Drain(0) != "" || m.Drain(-1) != "" {
			t.Error("P20.1: more than all")
		}
	}
}

// byTurns: the ids in the order that turns of these lanes give.
func byTurns(lanes map[int][]api.Record) string {
	s := ""
	for i := 0; i < 100; i++ {
		for id := 1; id <= 3; id++ {
			if i < len(lanes[id]) {
				s += string(rune('0' + id))
			}
		}
	}
	return s
}

// P20.1: the turn goes on from the last one, and nothing is begun by a Drain of nothing.
func TestTurnGoesOn(t *testing.T) {
	m := New(3)
	open(t, m, "", 1)
	m.Drain(0)
	m.Abort(1) // it wasn't begun: nothing comes
	live(t, m)
	open(t, m, "", 1)
	if got := m.Drain(16); got != bytesOf(kind.Begin(1, true)) {
		t.Errorf("P20.1: %q", got)
	}
	open(t, m, "", 2)
	open(t, m, "", 3)
	if got := m.Drain(16 * 2); got != bytesOf(kind.Begin(2, true), kind.Begin(3, true)) {
		t.Errorf("P20.1: %q", got)
	}
	m.Drain(9) // the whole of id 1's next record, and a byte
	m.Abort(1)
	if got := m.Drain(1 << 20); !strings.Contains(got, bytesOf(frames.Abort(1))) {
		t.Errorf("P20.1: %q", got)
	}
}

// P20.1: how long an id is Live.
func TestLive(t *testing.T) {
	m := New(2)
	open(t, m, "body", 1)
	open(t, m, "body", 2)
	m.Abort(1)
	live(t, m, 2)
	m.Drain(1) // id 2 is begun
	m.Abort(2)
	m.Abort(7)
	m.Abort(0)
	live(t, m, 2)
	if got := m.Drain(1 << 20); got != bytesOf(kind.Begin(2, true), frames.Abort(2))[1:] || m.Pending() {
		t.Errorf("P20.1: aborted: %q", got)
	}
	live(t, m, 2)
	feed(t, m, bytesOf(out(2, "late"), end(2)), api.Event{ID: 2, Out: "late"}, ended(2))
	live(t, m)
	open(t, m, "body", 1)
	m.Drain(1)
	feed(t, m, bytesOf(end(1)), ended(1)) // ahead of its body: an abort is still to be said
	live(t, m, 1)
	if got := m.Drain(1 << 20); got != bytesOf(kind.Begin(1, true), frames.Abort(1))[1:] {
		t.Errorf("P20.1: ended early: %q", got)
	}
	live(t, m)
}

// P20.2: events, however bytes are cut.
func TestFeed(t *testing.T) {
	s := bytesOf(api.Record{Type: api.TGotValues, Content: "x"}, out(1, "a"), api.Record{Type: api.TStderr, ID: 1, Content: "e"}, out(2, strings.Repeat("b", 65535)), kind.Unknown(9), out(1, ""), kind.End(1, api.End{App: 5, Protocol: 3}), out(2, "c"), end(2))
	want := []api.Event{{ID: 1, Out: "a"}, {ID: 2, Out: strings.Repeat("b", 65535)}, {ID: 1, Ended: true, End: api.End{App: 5, Protocol: 3}}, {ID: 2, Out: "c"}, ended(2)}
	for _, size := range []int{1, 7, 1 << 20} {
		m := New(2)
		open(t, m, "", 1)
		open(t, m, "", 2)
		m.Drain(1 << 20)
		var got []api.Event
		for i := 0; i < len(s); i += size {
			l, err := m.Feed(s[i:min(i+size, len(s))])
			if err != nil {
				t.Fatalf("P20.2: %v", err)
			}
			got = append(got, l...)
		}
		if !reflect.DeepEqual(got, want) || !slices.Equal(m.Ends(), []int{1, 2}) {
			t.Errorf("P20.2: cut by %d: %d events, %v", size, len(got), m.Ends())
		}
	}
}

// P20.2: what a backend may not say: events ahead of it are told, and then the connection is dead.
func TestErrors(t *testing.T) {
	for bad, want := range map[string]error{
		"\x02": api.ErrVersion, "\x01\x00\x00\x00\x00\x00\x00\x00": api.ErrForm,
		bytesOf(out(0, "a")): api.ErrBreach, bytesOf(end(0)): api.ErrBreach, bytesOf(out(3, "a")): api.ErrBreach, bytesOf(out(4, "a")): api.ErrBreach, bytesOf(out(9, "a")): api.ErrBreach,
		bytesOf(end(1)): api.ErrBreach, // it has ended
		bytesOf(api.Record{Type: api.TEnd, ID: 2, Content: "1234567"}): api.ErrForm, bytesOf(api.Record{Type: api.TStdin, ID: 2}): api.ErrBreach,
		bytesOf(out(2, ""), out(2, "b")): api.ErrBreach, bytesOf(out(3, "a")) + "\x02": api.ErrBreach,
	} {
		m := New(4)
		open(t, m, "", 1)
		open(t, m, "", 2)
		m.Drain(1 << 20)
		open(t, m, "", 1+2) // not begun
		got, err := m.Feed(bytesOf(out(1, "a"), end(1)) + bad + bytesOf(out(2, "lost")))
		if !slices.Equal(got, []api.Event{{ID: 1, Out: "a"}, ended(1)}) || !errors.Is(err, want) {
			t.Errorf("P20.2: %q: %v, %v", bad, got, err)
		}
		live(t, m, 2, 3)
		if !m.Dead() || m.Pending() || m.Drain(100) != "" || !slices.Equal(m.Ends(), []int{1}) {
			t.Errorf("P20.2: %q: it isn't dead", bad)
		}
		if got, err := m.Feed(bytesOf(out(2, "a"))); got != nil || !errors.Is(err, api.ErrBreach) {
			t.Errorf("P20.2: %q, dead: %v, %v", bad, got, err)
		}
		if id, err := m.Open(nil, ""); id != 0 || !errors.Is(err, api.ErrBreach) {
			t.Errorf("P20.1: %q, dead: %d, %v", bad, id, err)
		}
	}
	if m := New(1); m.Dead() || m.Pending() || m.Live() != nil || m.Ends() != nil {
		t.Error("P20.1: a new one")
	}
}

// P20.2: what is Dead keeps its Live as it was, whatever is done with it: lanes that weren't begun, that were, that were
// aborted or had ended with an abort still to be said.
func TestDeadStays(t *testing.T) {
	m := New(8)
	open(t, m, "", 1)
	open(t, m, "", 2)
	m.Drain(16) // ids 1 and 2 are in the midst
	m.Drain(16)
	open(t, m, "", 3)
	m.Drain(1)
	open(t, m, "", 4)
	m.Abort(2)
	feed(t, m, bytesOf(end(3)), ended(3))
	open(t, m, "", 5)
	m.Abort(4) // ahead of its death an Abort frees what wasn't begun
	live(t, m, 1, 2, 3, 5)
	if got, err := m.Feed("y"); got != nil || !errors.Is(err, api.ErrVersion) || !m.Dead() {
		t.Fatalf("P20.2: %v, %v", got, err)
	}
	for _, do := range []func(){
		func() { m.Abort(5) }, func() { m.Abort(1) }, func() { m.Abort(2) }, func() { m.Abort(3) }, func() { m.Abort(4) }, func() { m.Abort(0) }, func() { m.Abort(9) },
		func() { m.Open(nil, "") }, func() { m.Feed(bytesOf(end(1))) }, func() { m.Drain(1 << 20) }, func() { m.Abort(5) },
	} {
		do()
		live(t, m, 1, 2, 3, 5)
		if m.Pending() || m.Drain(1<<20) != "" || !m.Dead() || !slices.Equal(m.Ends(), []int{3}) {
			t.Errorf("P20.2: pending, or not dead, or other ends: %v", m.Ends())
		}
		if got, err := m.Feed(""); got != nil || !errors.Is(err, api.ErrBreach) {
			t.Errorf("P20.2: dead: %v, %v", got, err)
		}
	}
}
