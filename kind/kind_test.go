package kind

import (
	"errors"
	"strings"
	"testing"

	"conduit/api"
)

// P4.1: what is made, byte by byte, without padding.
func TestMade(t *testing.T) {
	for i, c := range []struct{ got, want api.Record }{
		{Begin(1, true), api.Record{Type: api.TBegin, ID: 1, Content: "\x00\x01\x01\x00\x00\x00\x00\x00"}},
		{Begin(65535, false), api.Record{Type: api.TBegin, ID: 65535, Content: "\x00\x01\x00\x00\x00\x00\x00\x00"}},
		{Begin(-1, false), api.Record{Type: api.TBegin, ID: -1, Content: "\x00\x01\x00\x00\x00\x00\x00\x00"}},
		{End(7, api.End{}), api.Record{Type: api.TEnd, ID: 7, Content: "\x00\x00\x00\x00\x00\x00\x00\x00"}},
		{End(7, api.End{App: 0x01020384, Protocol: 0x103}), api.Record{Type: api.TEnd, ID: 7, Content: "\x01\x02\x03\x84\x03\x00\x00\x00"}},
		{End(7, api.End{App: 1<<32 - 1, Protocol: -1}), api.Record{Type: api.TEnd, ID: 7, Content: "\xff\xff\xff\xff\xff\x00\x00\x00"}},
		{Unknown(0x10c), api.Record{Type: api.TUnknown, Content: "\x0c\x00\x00\x00\x00\x00\x00\x00"}},
	} {
		if c.got != c.want {
			t.Errorf("P4.1: row %d: %v", i, c.got)
		}
	}
}

// P4.1, P4.2: what is read, and what is refused.
func TestRead(t *testing.T) {
	for _, keep := range []bool{true, false} {
		if role, is, err := ReadBegin(Begin(3, keep)); role != 1 || is != keep || err != nil {
			t.Errorf("P4.1: %d, %v, %v", role, is, err)
		}
	}
	if role, keep, err := ReadBegin(api.Record{Type: api.TBegin, Content: "\x12\x34\xfe\xff\xff\xff\xff\xff", Pad: 3}); role != 0x1234 || keep || err != nil {
		t.Errorf("P4.1: another role, other flags: %d, %v, %v", role, keep, err)
	}
	for _, e := range []api.End{{}, {App: 1 << 31, Protocol: 255}, {App: 0x01020304, Protocol: 2}} {
		if got, err := ReadEnd(End(1, e)); got != e || err != nil {
			t.Errorf("P4.2: %v, %v", got, err)
		}
	}
	for _, n := range []int{0, 7, 9} {
		if role, keep, err := ReadBegin(api.Record{Type: api.TBegin, Content: strings.Repeat("\x01", n)}); role != 0 || keep || !errors.Is(err, api.ErrForm) {
			t.Errorf("P4.1: %d bytes: %d, %v, %v", n, role, keep, err)
		}
		if e, err := ReadEnd(api.Record{Type: api.TEnd, Content: strings.Repeat("\x01", n)}); e != (api.End{}) || !errors.Is(err, api.ErrForm) {
			t.Errorf("P4.1: %d bytes: %v, %v", n, e, err)
		}
	}
	if _, _, err := ReadBegin(End(1, api.End{})); !errors.Is(err, api.ErrForm) {
		t.Errorf("P4.1: another Type: %v", err)
	}
	if _, err := ReadEnd(Begin(1, true)); !errors.Is(err, api.ErrForm) {
		t.Errorf("P4.1: another Type: %v", err)
	}
}

// P4.1: the names of the Types.
func TestName(t *testing.T) {
	for i, want := range strings.Fields("none begin abort end params stdin stdout stderr data get got unknown none") {
		if got := Name(i); got != want {
			t.Errorf("P4.1: Name %d: %s", i, got)
		}
	}
	if Name(-1) != "none" || Name(256) != "none" {
		t.Error("P4.1: names of none")
	}
}
