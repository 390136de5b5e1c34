package cutter

import (
	"errors"
	"math/rand"
	"slices"
	"strings"
	"testing"

	"conduit/api"
	"conduit/record"
)

func stream() (string, []api.Record) {
	l := []api.Record{
		{Type: 1, ID: 1, Content: "12345678"}, {Type: 4, ID: 1}, {Type: 5, ID: 65535, Content: strings.Repeat("a", 300), Pad: 4}, {Type: 255, Pad: 255},
	}
	var s strings.Builder
	for _, r := range l {
		s.WriteString(record.Bytes(r))
	}
	return s.String(), l
}

// P5.1, P5.2: however bytes are cut, the records are the same, each at its last byte.
func TestChunksDontMatter(t *testing.T) {
	s, want := stream()
	for _, size := range []int{1, 2, 3, 5, 7, 8, 13, 100, len(s)} {
		c := New(65535)
		var got []api.Record
		whole := 0 // bytes of the records told
		for i := 0; i < len(s); i += size {
			end := min(i+size, len(s))
			l, err := c.Feed(s[i:end])
			if err != nil {
				t.Fatalf("P5.1: %v", err)
			}
			got = append(got, l...)
			for _, r := range l {
				whole += len(record.Bytes(r))
			}
			if c.Waits() != end-whole || c.Dead() {
				t.Fatalf("P5.1: cut by %d at %d: %d wait", size, end, c.Waits())
			}
			if next := len(got); next < len(want) && end >= whole+len(record.Bytes(want[next])) {
				t.Fatalf("P5.1: a whole record isn't told at byte %d", end)
			}
		}
		if !slices.Equal(got, want) {
			t.Errorf("P5.2: cut by %d: %v", size, got)
		}
	}
	c := New(0)
	if l, err := c.Feed(""); l != nil || err != nil || c.Waits() != 0 {
		t.Errorf("P5.1: nothing: %v, %v", l, err)
	}
}

// P5.1: an error comes behind the records ahead of it, and then it is dead.
func TestErrors(t *testing.T) {
	good := record.Bytes(api.Record{Type: 6, ID: 1, Content: "abc"})
	for i, c := range []struct {
		most int
		bad  string // the last byte of it makes the error
		want error
	}{
		{10, "\x02", api.ErrVersion}, {10, "\x00", api.ErrVersion},
		{10, "\x01\x00\x00\x00\x00\x00\x00\x00", api.ErrForm}, {10, "\x01\x00\x00\x00\x00\x01\x01\x00a\x00", api.ErrForm},
		{10, "\x01\x06\x00\x01\x00\x0b", api.ErrLarge}, {10, "\x01\x06\x00\x01\x01\x00", api.ErrLarge}, {10, "\x01\x00\x00\x01\x01\x00", api.ErrLarge},
	} {
		whole := New(c.most)
		l, err := whole.Feed(good + good + c.bad + good)
		if len(l) != 2 || l[1].Content != "abc" || !errors.Is(err, c.want) {
			t.Errorf("P5.1: row %d: %d, %v", i, len(l), err)
		}
		single := New(c.most)
		for j := range len(c.bad) {
			l, err = single.Feed(c.bad[j : j+1])
			if last := j == len(c.bad)-1; len(l) != 0 || last != (err != nil) || last && !errors.Is(err, c.want) || single.Dead() != last {
				t.Errorf("P5.1: row %d, byte %d: %v", i, j, err)
			}
		}
		alone := New(c.most)
		if l, err = alone.Feed(c.bad + good); len(l) != 0 || !errors.Is(err, c.want) {
			t.Errorf("P5.1: row %d, at once: %d, %v", i, len(l), err)
		}
		for _, x := range []*Cutter{whole, single, alone} {
			for _, s := range []string{"", good} {
				if l, err := x.Feed(s); l != nil || !errors.Is(err, api.ErrBreach) || !x.Dead() || x.Waits() != 0 {
					t.Errorf("P5.1: row %d, dead: %v, %v, %d", i, l, err, x.Waits())
				}
			}
		}
	}
}

// P5.1: at the limit and one past it, and limits that nothing is within.
func TestMost(t *testing.T) {
	for _, n := range []int{0, 1, 255, 256, 65535} {
		s := record.Bytes(api.Record{Type: 6, ID: 1, Content: strings.Repeat("x", n)})
		if l, err := New(n).Feed(s); len(l) != 1 || err != nil {
			t.Errorf("P5.1: %d bytes: %v", n, err)
		}
		if l, err := New(n - 1).Feed(s); len(l) != 0 || !errors.Is(err, api.ErrLarge) {
			t.Errorf("P5.1: %d bytes, one too many: %v", n, err)
		}
	}
	if l, err := New(1 << 40).Feed(record.Bytes(api.Record{Type: 6, Content: "x"})); len(l) != 1 || err != nil {
		t.Errorf("P5.1: a great limit: %v", err)
	}
}

// P5.2: whatever comes, however it is cut: the same records, the same error, the same that waits.
func TestAnyCut(t *testing.T) {
	pieces := []string{"\x01\x06\x00\x01\x00\x02\x01\x00abc", "\x01\x05\x00\x01\x00\x00\x00\x00", "\x01\x00\x00\x01\x00\x01\x00\x00a", "\x01\x06\x00", "\x01", "\x00", "\x02", "\x01\x06\x00\x01\x01\x00\x00\x00", "ab"}
	for seed := range int64(3000) {
		rnd := rand.New(rand.NewSource(seed))
		s := ""
		for range rnd.Intn(8) {
			s += pieces[rnd.Intn(len(pieces))]
		}
		most, size := rnd.Intn(4), 1+rnd.Intn(9)
		whole, cut := New(most), New(most)
		want, wrong := whole.Feed(s)
		var got []api.Record
		var err error
		for i := 0; i < len(s) && err == nil; i += size {
			var l []api.Record
			l, err = cut.Feed(s[i:min(i+size, len(s))])
			got = append(got, l...)
		}
		if !slices.Equal(got, want) || err != wrong || cut.Waits() != whole.Waits() || cut.Dead() != whole.Dead() {
			t.Fatalf("P5.2: %q cut by %d: %v, %v, not %v, %v", s, size, got, err, want, wrong)
		}
	}
}
