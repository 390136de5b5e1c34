package lane

import (
	"errors"
	"slices"
	"strings"
	"testing"

	"conduit/api"
	"conduit/frames"
	"conduit/kind"
)

var (
	pairs = []api.Pair{{Name: "A", Value: "b"}}
	body  = strings.Repeat("b", 600)
)

// rest: all that is still to come.
func rest(l *Lane) []api.Record {
	var out []api.Record
	for l.Wants() {
		r, ok := l.Next()
		if !ok {
			break
		}
		out = append(out, r)
	}
	return out
}

// after: a lane of which so many records were told.
func after(n int) *Lane {
	l := New(3, pairs, body)
	for range n {
		l.Next()
	}
	return l
}

func takes(t *testing.T, l *Lane, r api.Record, out string, want error) {
	t.Helper()
	if got, err := l.Take(r); got != out || !errors.Is(err, want) {
		t.Errorf("P19.2: %v: %q, %v", r, got, err)
	}
}

// P19.1: the records of a request, in order.
func TestNext(t *testing.T) {
	want := frames.Build(3, pairs, body)
	l := New(3, pairs, body)
	for i, r := range want {
		if !l.Wants() || l.Begun() != (i > 0) {
			t.Errorf("P19.1: ahead of record %d", i)
		}
		if got, ok := l.Next(); got != r || !ok {
			t.Errorf("P19.1: record %d: %v", i, got)
		}
	}
	for range 2 {
		if got, ok := l.Next(); ok || got != (api.Record{}) || l.Wants() || !l.Begun() {
			t.Errorf("P19.1: behind all: %v", got)
		}
	}
}

// P19.1: an abort, wherever it comes, and one more.
func TestAbort(t *testing.T) {
	all := len(frames.Build(3, pairs, body))
	for n := 0; n <= all; n++ {
		l := after(n)
		l.Abort()
		l.Abort()
		want := []api.Record{frames.Abort(3)}
		if n == 0 {
			want = nil
		}
		if got := rest(l); !slices.Equal(got, want) || l.Begun() != (n > 0) {
			t.Errorf("P19.1: aborted behind %d records: %v", n, got)
		}
		l.Abort()
		if l.Wants() {
			t.Errorf("P19.1: aborted twice behind %d records", n)
		}
		if _, err := l.Take(api.Record{Type: api.TStdout, Content: "a"}); (err == nil) != (n > 0) {
			t.Errorf("P19.2: a record behind an abort behind %d records: %v", n, err)
		}
	}
}

// P19.1, P19.2: an end, wherever it comes: what is to come then is an abort, if not all was told.
func TestEnd(t *testing.T) {
	all := len(frames.Build(3, pairs, body))
	e := api.End{App: 7, Protocol: 2}
	for n := 1; n <= all; n++ {
		for _, aborts := range []int{0, 1, 2} { // none, one that isn't told, one that is
			l := after(n)
			if got, is := l.Ended(); is || got != (api.End{}) {
				t.Errorf("P19.2: ended too early: %v", got)
			}
			if aborts > 0 {
				l.Abort()
			}
			if aborts > 1 {
				l.Next()
			}
			takes(t, l, kind.End(9, e), "", nil)
			want := []api.Record{frames.Abort(3)}
			if aborts == 2 || aborts == 0 && n == all {
				want = nil
			}
			l.Abort()
			if got, is := l.Ended(); !is || got != e || !slices.Equal(rest(l), want) {
				t.Errorf("P19.2: behind %d records, %d aborts: %v, %v", n, aborts, got, is)
			}
			l.Abort()
			if l.Wants() {
				t.Errorf("P19.1: an abort behind an end behind %d records", n)
			}
			takes(t, l, kind.End(3, e), "", api.ErrBreach)
			takes(t, l, api.Record{Type: api.TStdout, Content: "a"}, "", api.ErrBreach)
		}
	}
}

// P19.2: the streams, each up to its empty record.
func TestStreams(t *testing.T) {
	l := after(1)
	out, err := api.Record{Type: api.TStdout, ID: 5, Content: "out"}, api.Record{Type: api.TStderr, Content: "err"}
	takes(t, l, out, "out", nil)
	takes(t, l, err, "", nil)
	takes(t, l, api.Record{Type: api.TStderr}, "", nil)
	takes(t, l, err, "", api.ErrBreach)
	takes(t, l, api.Record{Type: api.TStderr}, "", api.ErrBreach)
	takes(t, l, out, "out", nil)
	takes(t, l, api.Record{Type: api.TStdout, Pad: 8}, "", nil)
	takes(t, l, out, "", api.ErrBreach)
	takes(t, l, api.Record{Type: api.TStdout}, "", api.ErrBreach)
	takes(t, l, kind.End(3, api.End{}), "", nil)
}

// P19.2, P19.3: what may not be.
func TestBreach(t *testing.T) {
	for _, r := range []api.Record{{Type: api.TStdout}, {Type: api.TStderr}, kind.End(3, api.End{}), {Type: api.TEnd}} {
		takes(t, New(3, pairs, body), r, "", api.ErrBreach)
	}
	for _, n := range []int{0, api.TBegin, api.TAbort, api.TParams, api.TStdin, api.TData, api.TGetValues, api.TGotValues, api.TUnknown, 12, -1} {
		takes(t, after(9), api.Record{Type: n, Content: "12345678"}, "", api.ErrBreach)
	}
	l := after(2)
	takes(t, l, api.Record{Type: api.TEnd, Content: "1234567"}, "", api.ErrForm)
	if _, is := l.Ended(); is || !l.Wants() {
		t.Error("P19.2: an ill-formed end ends nothing")
	}
	takes(t, l, kind.End(3, api.End{}), "", nil)
}
