package frames

import (
	"slices"
	"strings"
	"testing"

	"conduit/api"
	"conduit/kind"
	"conduit/pair"
)

// P18.1: parts of 512 bytes, and the empty one.
func TestSplit(t *testing.T) {
	for n, want := range map[int][]int{0: {0}, 1: {1, 0}, 511: {511, 0}, 512: {512, 0}, 513: {512, 1, 0}, 1024: {512, 512, 0}, 1030: {512, 512, 6, 0}} {
		var s strings.Builder
		for i := range n {
			s.WriteByte(byte(i % 251))
		}
		got, all := []int{}, ""
		for _, r := range Split(9, 3, s.String()) {
			got, all = append(got, len(r.Content)), all+r.Content
			if r.Type != 9 || r.ID != 3 || (len(r.Content)+r.Pad)%8 != 0 || r.Pad > 7 || r.Pad < 0 {
				t.Errorf("P18.1: %v", r)
			}
		}
		if !slices.Equal(got, want) || all != s.String() {
			t.Errorf("P18.1: %d bytes: %v", n, got)
		}
	}
	if got := Split(-1, -2, ""); !slices.Equal(got, []api.Record{{Type: -1, ID: -2}}) {
		t.Errorf("P18.1: %v", got)
	}
}

// P18.1, P18.2: all of a request.
func TestBuild(t *testing.T) {
	l := []api.Pair{{Name: "A", Value: strings.Repeat("v", 600)}, {Name: "B"}}
	s := pair.Bytes(l...)
	want := []api.Record{
		kind.Begin(2, true),
		{Type: api.TParams, ID: 2, Content: s[:512]}, {Type: api.TParams, ID: 2, Content: s[512:], Pad: 7 & -len(s)}, {Type: api.TParams, ID: 2},
		{Type: api.TStdin, ID: 2, Content: "body", Pad: 4}, {Type: api.TStdin, ID: 2},
	}
	if got := Build(2, l, "body"); !slices.Equal(got, want) {
		t.Errorf("P18.1: %v", got)
	}
	want = []api.Record{kind.Begin(1, true), {Type: api.TParams, ID: 1}, {Type: api.TStdin, ID: 1}}
	if got := Build(1, nil, ""); !slices.Equal(got, want) {
		t.Errorf("P18.2: nothing: %v", got)
	}
	if Abort(7) != (api.Record{Type: api.TAbort, ID: 7}) {
		t.Errorf("P18.1: %v", Abort(7))
	}
}
