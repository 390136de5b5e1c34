package judge

import (
	"errors"
	"reflect"
	"strings"
	"testing"

	"conduit/api"
	"conduit/frames"
	"conduit/kind"
	"conduit/pair"
	"conduit/record"
)

func bytesOf(l ...api.Record) string {
	s := ""
	for _, r := range l {
		s += record.Bytes(r)
	}
	return s
}

var vars = []api.Pair{{Name: "A", Value: strings.Repeat("v", 600)}, {Name: "B"}}

func whole(id int, body string) string { return bytesOf(frames.Build(id, vars, body)...) }

func rec(t, id int, s string) api.Record { return api.Record{Type: t, ID: id, Content: s} }

func begin(id int) api.Record { return kind.Begin(id, true) }

func aborted(id int) string { return bytesOf(frames.Abort(id)) }

// P26.1: requests, in the order in which they begin, whole and cut.
func TestRead(t *testing.T) {
	long := strings.Repeat("b", 1300)
	one, two := frames.Build(1, vars, long), frames.Build(2, nil, "")
	mixed := bytesOf(two[0], one[0], two[1], one[1], one[2], one[3], two[2], one[4], one[5], one[6], one[7])
	for i, c := range []struct {
		s    string
		want []api.Sent
	}{
		{"", nil}, {whole(1, "body"), []api.Sent{{ID: 1, Pairs: vars, Body: "body", Whole: true}}},
		{mixed, []api.Sent{{ID: 2, Whole: true}, {ID: 1, Pairs: vars, Body: long, Whole: true}}},
		{mixed + whole(1, "x") + whole(65535, ""), []api.Sent{{ID: 2, Whole: true}, {ID: 1, Pairs: vars, Body: long, Whole: true}, {ID: 1, Pairs: vars, Body: "x", Whole: true}, {ID: 65535, Pairs: vars, Whole: true}}},
		{bytesOf(begin(1)), []api.Sent{{ID: 1}}}, {bytesOf(begin(1)) + aborted(1) + bytesOf(begin(1)), []api.Sent{{ID: 1, Cut: true}, {ID: 1}}},
		{bytesOf(one[:2]...) + aborted(1), []api.Sent{{ID: 1, Cut: true}}}, {bytesOf(one[:4]...), []api.Sent{{ID: 1, Pairs: vars}}}, {bytesOf(one[:5]...) + aborted(1), []api.Sent{{ID: 1, Pairs: vars, Body: long[:512], Cut: true}}},
		{whole(1, "b") + aborted(1) + bytesOf(begin(1)), []api.Sent{{ID: 1, Pairs: vars, Body: "b", Whole: true, Cut: true}, {ID: 1}}},
		{whole(1, "b") + whole(1, "c")[:9], []api.Sent{{ID: 1, Pairs: vars, Body: "b", Whole: true}}}, // what waits is no error
		{bytesOf(begin(1), api.Record{Type: api.TParams, ID: 1, Pad: 9}, rec(api.TStdin, 1, "x")), []api.Sent{{ID: 1, Body: "x"}}},
	} {
		got, err := Read(c.s)
		if !reflect.DeepEqual(got, c.want) || err != nil || !Right(c.s) {
			t.Errorf("P26.1: row %d: %v, %v", i, got, err)
		}
	}
}

// P26.1, P26.3: what may not be.
func TestReadErrors(t *testing.T) {
	b, p, in := bytesOf(begin(1)), bytesOf(rec(api.TParams, 1, "")), bytesOf(rec(api.TStdin, 1, ""))
	half := bytesOf(rec(api.TParams, 1, "\x05"))
	many := bytesOf(rec(api.TParams, 1, strings.Repeat("\x00\x00", 201)))
	for s, want := range map[string]error{
		p: api.ErrBreach, in: api.ErrBreach, aborted(1): api.ErrBreach, b + b: api.ErrBreach, b + p + b: api.ErrBreach, b + p + bytesOf(rec(api.TStdin, 1, "x")) + b: api.ErrBreach,
		b + in: api.ErrBreach, b + p + p: api.ErrBreach, b + p + bytesOf(rec(api.TParams, 1, pair.Bytes(vars...))): api.ErrBreach, b + p + in + in: api.ErrBreach, b + p + in + bytesOf(rec(api.TStdin, 1, "x")): api.ErrBreach,
		b + aborted(1) + aborted(1): api.ErrBreach, b + aborted(1) + p: api.ErrBreach, b + p + aborted(1) + in: api.ErrBreach, b + p + in + aborted(1) + aborted(1): api.ErrBreach, b + bytesOf(rec(api.TAbort, 1, "x")): api.ErrBreach, b + aborted(2): api.ErrBreach,
		bytesOf(kind.Begin(1, false)): api.ErrBreach, bytesOf(begin(0)): api.ErrBreach, bytesOf(rec(api.TBegin, 1, "\x00\x02\x01\x00\x00\x00\x00\x00")): api.ErrBreach, bytesOf(rec(api.TBegin, 1, "\x00\x01\x01\x00\x00\x00\x00")): api.ErrBreach, bytesOf(rec(api.TBegin, 1, "")): api.ErrBreach,
		b + bytesOf(rec(api.TStdout, 1, "x")): api.ErrBreach, b + bytesOf(kind.End(1, api.End{})): api.ErrBreach, bytesOf(rec(api.TGetValues, 0, "")): api.ErrBreach, b + bytesOf(rec(api.TData, 1, "")): api.ErrBreach, bytesOf(rec(99, 1, "")): api.ErrBreach, b + bytesOf(rec(api.TParams, 0, "")): api.ErrBreach,
		b + half + p: api.ErrShort, b + many + p: api.ErrLarge, b + half + p + in: api.ErrShort, b + half + aborted(1) + p: api.ErrBreach,
		"\x02": api.ErrVersion, b + "\x02": api.ErrVersion, b + "\x01\x00\x00\x00\x00\x00\x00\x00": api.ErrForm, p + "\x02": api.ErrBreach, b + half + p + "\x02": api.ErrShort,
	} {
		got, err := Read(s)
		if got != nil || !errors.Is(err, want) || Right(s) || Reuse(s, nil) {
			t.Errorf("P26.1: %.60q: %v, %v", s, got, err)
		}
	}
	if !Right(b+half) || !Right(b+half+aborted(1)) {
		t.Error("P26.1: variables are read when the empty record came, not ahead of it")
	}
}

// P26.2: an id is used again behind its end alone.
func TestReuse(t *testing.T) {
	a, b := whole(1, ""), whole(2, "body")
	s := a + b + a + b + a
	second, third := len(a)+len(b), 2*(len(a)+len(b))
	mark := func(id, at int) api.Mark { return api.Mark{ID: id, At: at} }
	for i, c := range []struct {
		ends []api.Mark
		want bool
	}{
		{nil, false},
		{[]api.Mark{mark(1, len(a)), mark(2, second), mark(1, third)}, true}, {[]api.Mark{mark(1, second), mark(2, second+len(a)), mark(1, third), mark(1, third+9)}, true}, {[]api.Mark{mark(1, 0), mark(2, len(a)), mark(1, second)}, true},
		{[]api.Mark{mark(1, second+1), mark(2, second), mark(1, third)}, false}, {[]api.Mark{mark(1, 0), mark(2, second), mark(1, third+1)}, false}, {[]api.Mark{mark(1, 0), mark(2, len(a)-1), mark(1, third)}, false}, {[]api.Mark{mark(1, 0), mark(2, second+len(a)+1), mark(1, third)}, false},
		{[]api.Mark{mark(3, second), mark(2, second), mark(1, third)}, false}, {[]api.Mark{mark(1, -1), mark(2, second), mark(1, third)}, false},
	} {
		if Reuse(s, c.ends) != c.want {
			t.Errorf("P26.2: row %d", i)
		}
	}
	if !Reuse("", nil) || !Reuse(a+b, nil) || !Reuse(a+b, []api.Mark{mark(7, 7)}) {
		t.Error("P26.2: nothing is used again")
	}
}

// No two lists of an answer share memory.
func TestMemory(t *testing.T) {
	l, _ := Read(whole(1, "") + whole(2, ""))
	l[0].Pairs[0].Name = "changed"
	_ = append(l[0].Pairs, api.Pair{Name: "more"})
	if l[1].Pairs[0].Name != "A" {
		t.Error("memory is shared")
	}
}
