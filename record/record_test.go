package record

import (
	"errors"
	"strings"
	"testing"

	"conduit/api"
)

// P2.1: what may be a record, at each edge.
func TestIs(t *testing.T) {
	big := strings.Repeat("x", api.MaxRecord)
	for i, c := range []struct {
		r    api.Record
		want bool
	}{
		{api.Record{Type: 1}, true}, {api.Record{Type: 255, ID: 65535, Content: big, Pad: 255}, true},
		{api.Record{}, false}, {api.Record{Type: 256}, false}, {api.Record{Type: -1}, false},
		{api.Record{Type: 1, ID: -1}, false}, {api.Record{Type: 1, ID: 65536}, false},
		{api.Record{Type: 1, Content: big + "x"}, false}, {api.Record{Type: 1, Pad: -1}, false}, {api.Record{Type: 1, Pad: 256}, false},
	} {
		if Is(c.r) != c.want || (Bytes(c.r) != "") != c.want {
			t.Errorf("P2.1: row %d: %v", i, Is(c.r))
		}
	}
}

// P2.1: the bytes of a record, byte by byte.
func TestBytes(t *testing.T) {
	for want, r := range map[string]api.Record{
		"\x01\x02\x00\x01\x00\x00\x00\x00":            {Type: api.TAbort, ID: 1},
		"\x01\xff\xfe\xdc\x00\x03\x02\x00abc\x00\x00": {Type: 255, ID: 0xfedc, Content: "abc", Pad: 2},
		"\x01\x06\x00\x00\x00\x00\x01\x00\x00":        {Type: api.TStdout, Pad: 1},
		"\x01\x05\x00\x02\x00\x05\x00\x00\x00abc\xff": {Type: api.TStdin, ID: 2, Content: "\x00abc\xff"},
		"\x01\x05\x00\x02\x01\x01\x00\x00" + x257():   {Type: api.TStdin, ID: 2, Content: x257()},
	} {
		if got := Bytes(r); got != want {
			t.Errorf("P2.1: %v: %q", r, got)
		}
	}
}

func x257() string { return strings.Repeat("x", 257) }

// P2.1, P2.3: what was put comes back, with what is behind.
func TestThereAndBack(t *testing.T) {
	for _, r := range []api.Record{
		{Type: 1}, {Type: 255, ID: 65535, Content: "a\x00b", Pad: 255}, {Type: 9, ID: 256, Content: strings.Repeat("\xff", api.MaxRecord), Pad: 7},
	} {
		for _, rest := range []string{"", "\x02", "\x01rest"} {
			got, behind, err := Read(Bytes(r) + rest)
			if got != r || behind != rest || err != nil {
				t.Errorf("P2.3: type %d: behind %q, %v", got.Type, behind, err)
			}
		}
	}
	got, _, err := Read("\x01\x06\x00\x01\x00\x01\x02\x77ayz")
	if want := (api.Record{Type: 6, ID: 1, Content: "a", Pad: 2}); got != want || err != nil {
		t.Errorf("P2.1: the eighth byte and the padding are looked at: %v, %v", got, err)
	}
}

// P2.1: wrong ones, in the order of the errors; s comes back.
func TestReadErrors(t *testing.T) {
	whole := Bytes(api.Record{Type: 3, ID: 1, Content: "abc", Pad: 5})
	rows := map[string]error{
		"\x02": api.ErrVersion, "\x00": api.ErrVersion, "\x02\x00\x00\x00\x00\x00\x00\x00": api.ErrVersion,
		"\x01\x00\x00\x00\x00\x00\x00\x00": api.ErrForm, "\x01\x00\x00\x00\x00\x01\x00\x00": api.ErrShort, "\x01\x00\x00\x01\x00\x01\x01\x00ab": api.ErrForm,
	}
	for i := range len(whole) {
		rows[whole[:i]] = api.ErrShort
	}
	for s, want := range rows {
		r, rest, err := Read(s)
		if r != (api.Record{}) || rest != s || !errors.Is(err, want) {
			t.Errorf("P2.1: %q: %v, %q, %v", s, r, rest, err)
		}
	}
}

// P2.2: padding.
func TestPad(t *testing.T) {
	for n, want := range map[int]int{0: 0, 1: 7, 7: 1, 8: 0, 9: 7, 65535: 1, -1: 0, -9: 0, 1<<63 - 1: 1, -1 << 63: 0} {
		if got := Pad(n); got != want {
			t.Errorf("P2.2: Pad %d: %d", n, got)
		}
	}
}
