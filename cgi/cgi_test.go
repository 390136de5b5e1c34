package cgi

import (
	"errors"
	"fmt"
	"math/rand"
	"reflect"
	"strings"
	"testing"

	"conduit/api"
)

// feed hands s over in parts of so many bytes, and puts together what is told.
func feed(r *Reader, s string, size int) (string, int, error) {
	out := ""
	for i := 0; i < len(s); i += size {
		part, err := r.Feed(s[i:min(i+size, len(s))])
		if err != nil {
			return out + part, i, err
		}
		out += part
	}
	return out, len(s), nil
}

func fields(n int) string {
	s := ""
	for i := range n {
		s += fmt.Sprintf("F%d: v\n", i)
	}
	return s
}

// P16.1, P16.2: heads, however they are cut; all that is behind is told.
func TestHeads(t *testing.T) {
	type pairs = []api.Pair
	for s, want := range map[string]api.Head{
		"Content-Type: a\n\n":                     {Status: 200, Reason: "OK", Fields: pairs{{Name: "Content-Type", Value: "a"}}},
		"content-type:\r\nX: \t1 \r\n\r\n":        {Status: 200, Reason: "OK", Fields: pairs{{Name: "content-type"}, {Name: "X", Value: "1"}}},
		"Status: 404\n\n":                         {Status: 404, Reason: "Not Found"},
		"A: 1\nSTATUS: 299  Odd one \nB: 2\r\n\n": {Status: 299, Reason: "Odd one", Fields: pairs{{Name: "A", Value: "1"}, {Name: "B", Value: "2"}}},
		"Location: /x\n\n":                        {Status: 302, Reason: "Found", Fields: pairs{{Name: "Location", Value: "/x"}}},
		"Content-Type: a\nLocation:\n\n":          {Status: 302, Reason: "Found", Fields: pairs{{Name: "Content-Type", Value: "a"}, {Name: "Location"}}},
		"Status: 201\nLocation: /x\n\n":           {Status: 201, Reason: "Unknown", Fields: pairs{{Name: "Location", Value: "/x"}}},
	} {
		for _, body := range []string{"", "\n\nbody\r\n"} {
			for _, size := range []int{1, 2, 3, 7, 10000} {
				r := New(len(s))
				got, _, err := feed(r, s+body, size)
				if got != body || err != nil || !r.Done() || !reflect.DeepEqual(r.Head(), want) {
					t.Errorf("P16.1: %q cut by %d: %q, %v, %v", s, size, got, err, r.Head())
				}
				if more, err := r.Feed("more"); more != "more" || err != nil {
					t.Errorf("P16.1: behind the head: %q, %v", more, err)
				}
			}
		}
		r := New(1000)
		if got, err := r.Feed(s[:len(s)-1]); got != "" || err != nil || r.Done() || !reflect.DeepEqual(r.Head(), api.Head{}) {
			t.Errorf("P16.1: %q but for a byte: %q, %v, %v", s, got, err, r.Head())
		}
	}
}

// P16.1: what may be no head, told at the byte that makes it so; then it is dead.
func TestErrors(t *testing.T) {
	const typed = "Content-Type: a\n"
	for bad, want := range map[string]error{ // the last byte of it makes the error
		"\n": api.ErrForm, "\r\n": api.ErrForm, "X: 1\n\n": api.ErrForm, "X\n": api.ErrForm, typed + " X: 1\n": api.ErrForm, typed + "\t\n": api.ErrForm, typed + " \n": api.ErrForm, "X Y: 1\n": api.ErrForm, "X: \x01\n": api.ErrForm,
		"X: 1\r\r\n": api.ErrForm, "X: 1\rY\n": api.ErrForm, "\r\r\n": api.ErrForm,
		strings.Repeat("n", api.MaxName+1) + ":\n": api.ErrLarge, "X:" + strings.Repeat("v", api.MaxValue+1) + "\n": api.ErrLarge,
		fields(api.MaxFields) + "X:\n": api.ErrLarge, fields(api.MaxFields) + "X\n": api.ErrForm,
		"Status: 200\nstatus: 200\n\n": api.ErrForm, typed + "Status: 200\nStatus: 200\n\n": api.ErrForm, "Status: 199\n\n": api.ErrForm, "Status:\n" + typed + "\n": api.ErrForm, "Status: x\nLocation: /\n\n": api.ErrForm,
	} {
		for _, size := range []int{1, 10000} {
			r := New(10000)
			got, at, err := feed(r, bad+"\n\nbody", size)
			if got != "" || !errors.Is(err, want) || r.Done() || size == 1 && at != len(bad)-1 || !reflect.DeepEqual(r.Head(), api.Head{}) {
				t.Errorf("P16.1: %.40q cut by %d: %q, byte %d of %d, %v", bad, size, got, at, len(bad), err)
			}
			for _, s := range []string{"", typed + "\n"} {
				if got, err := r.Feed(s); got != "" || !errors.Is(err, api.ErrBreach) || r.Done() {
					t.Errorf("P16.1: %.40q, dead: %q, %v", bad, got, err)
				}
			}
		}
	}
	if r := New(10000); !ok(r, fields(api.MaxFields-1)+typed+"\n") || len(r.Head().Fields) != api.MaxFields {
		t.Error("P16.1: as many fields as may be")
	}
}

func ok(r *Reader, s string) bool {
	_, err := r.Feed(s)
	return err == nil && r.Done()
}

// P16.1: the limit, ahead of whatever else the byte would be; the head's end counts too.
func TestMost(t *testing.T) {
	for _, s := range []string{"Content-Type: a\r\n\r\n", "Status: 200\n\n", "X\n", "\n"} {
		for most := -1; most < len(s); most++ {
			_, at, err := feed(New(most), s, 1)
			if at != max(most, 0) || !errors.Is(err, api.ErrLarge) {
				t.Errorf("P16.1: %q, limit %d: byte %d, %v", s, most, at, err)
			}
		}
	}
	if _, err := New(-1).Feed(""); err != nil {
		t.Errorf("P16.1: nothing: %v", err)
	}
}

// P16.1: what a Status field may say.
func TestStatus(t *testing.T) {
	long := strings.Repeat("r", api.MaxValue)
	for s, want := range map[string]string{"200": "OK", "404 ": "Not Found", "404 \t": "Not Found", "599": "Unknown", "302 x\ty ": "x\ty", "200  A b": "A b", "200 " + long: long, "200 \xff": "\xff"} {
		if n, reason, err := Status(s); fmt.Sprint(n) != s[:3] || reason != want || err != nil {
			t.Errorf("P16.1: Status %.20q: %d, %q, %v", s, n, reason, err)
		}
	}
	for _, s := range []string{"", " 200", "20", "2000", "199", "600", "099", "2x0", "+20", "200x", "200\tOK", "0200", "200 a\x01b", "200 \x7f", "200 a\nb", "200 " + long + "r"} {
		if n, reason, err := Status(s); n != 0 || reason != "" || !errors.Is(err, api.ErrForm) {
			t.Errorf("P16.1: Status %.20q: %d, %q, %v", s, n, reason, err)
		}
	}
}

// What is answered is new memory.
func TestMemory(t *testing.T) {
	r := New(100)
	r.Feed("Content-Type: a\n\n")
	r.Head().Fields[0].Name = "changed"
	if r.Head().Fields[0].Name != "Content-Type" {
		t.Error("a head is changed")
	}
}

// P16.1: whatever comes, however it is cut: the same head, the same behind it, the same error.
func TestAnyCut(t *testing.T) {
	pieces := []string{"\n", "\r\n", "\r", " ", "Status: 404", "Content-Type: a", "Location: /", "A: b\n", "abc", ":"}
	for seed := range int64(3000) {
		rnd := rand.New(rand.NewSource(seed))
		s := ""
		for range rnd.Intn(9) {
			s += pieces[rnd.Intn(len(pieces))]
		}
		most, size := rnd.Intn(80), 1+rnd.Intn(6)
		whole, cut := New(most), New(most)
		want, wrong := whole.Feed(s)
		got, _, err := feed(cut, s, size)
		if got != want || err != wrong || !reflect.DeepEqual(cut.Head(), whole.Head()) || cut.Done() != whole.Done() {
			t.Fatalf("P16.1: %q cut by %d: %q, %v, not %q, %v", s, size, got, err, want, wrong)
		}
	}
}
