package chunk

import (
	"errors"
	"math/rand"
	"strings"
	"testing"

	"conduit/api"
)

// feed hands s over in parts of so many bytes, and tells how many were taken in all.
func feed(r *Reader, s string, size int) (int, error) {
	taken := 0
	for i := 0; i < len(s); i += size {
		part := s[i:min(i+size, len(s))]
		n, err := r.Feed(part)
		taken += n
		if err != nil || n < len(part) {
			return taken, err
		}
	}
	return taken, nil
}

// P8.1, P8.3: bodies that are whole, however they are cut; what is behind isn't taken.
func TestBodies(t *testing.T) {
	long := strings.Repeat("x", api.MaxLine)
	for s, want := range map[string]string{
		"0\r\n\r\n":           "",
		"1\r\na\r\n0\r\n\r\n": "a",
		"A\r\n0123456789\r\n0001\r\n\n\r\n0\r\n\r\n":                          "0123456789\n",
		"1;a=b;c\r\n\r\r\n0000000;x\r\n\r\n":                                  "\r",
		"1; \t\"q\"\r\na\r\n0\r\nT: u\r\nV\r\n\r\n":                           "a",
		"1;" + long[2:] + "\r\na\r\n0;" + long[2:] + "\r\n\r\n":               "a",
		"0\r\n" + long + "\r\n\r\n":                                           "",
		"0\r\n" + long[:1000] + "\r\n" + strings.Repeat("y\r\n", 24) + "\r\n": "",
	} {
		for _, size := range []int{1, 2, 3, 7, 10000} {
			r := New(100)
			n, err := feed(r, s+"behind", size)
			if n != len(s) || err != nil || !r.Done() || r.Body() != want {
				t.Errorf("P8.1: %.30q cut by %d: %d, %v, %v, %q", s, size, n, err, r.Done(), r.Body())
			}
			if n, err := r.Feed("1\r\n"); n != 0 || err != nil {
				t.Errorf("P8.1: behind the end: %d, %v", n, err)
			}
		}
	}
}

// P8.1: what there is of a body that isn't whole.
func TestInTheMidst(t *testing.T) {
	r := New(10)
	for _, c := range []struct {
		s, body string
		done    bool
	}{{"", "", false}, {"3\r", "", false}, {"\nab", "ab", false}, {"c", "abc", false}, {"\r\n0\r\n", "abc", false}, {"x\r\n\r", "abc", false}, {"\n", "abc", true}} {
		if n, err := r.Feed(c.s); n != len(c.s) || err != nil || r.Body() != c.body || r.Done() != c.done {
			t.Errorf("P8.1: %q: %d, %v, %q", c.s, n, err, r.Body())
		}
	}
}

// P8.1: errors at the byte that makes them; then it is dead.
func TestErrors(t *testing.T) {
	long := strings.Repeat("x", api.MaxLine)
	for bad, want := range map[string]error{ // the last byte of it makes the error
		"\n": api.ErrForm, "1\n": api.ErrForm, "1\ra": api.ErrForm, "1\r\r": api.ErrForm, "\r\n": api.ErrForm, "g\r\n": api.ErrForm, ";a\r\n": api.ErrForm,
		" 1\r\n": api.ErrForm, "1 \r\n": api.ErrForm, "1 ;a\r\n": api.ErrForm, "-1\r\n": api.ErrForm, "0x1\r\n": api.ErrForm, "00000001\r\n": api.ErrForm,
		"1\r\nab": api.ErrForm, "1\r\na\n": api.ErrForm, "1\r\na\ra": api.ErrForm, "1\r\na\r\n\n": api.ErrForm,
		"0\r\n\n": api.ErrForm, "0\r\nT: u\n": api.ErrForm, "0\r\nT\ru": api.ErrForm, "0\r\n\r\r": api.ErrForm,
		"b\r\n": api.ErrLarge, "fffffff\r\n": api.ErrLarge, "a\r\n0123456789\r\n1\r\n": api.ErrLarge,
		"1;" + long[1:]: api.ErrLarge, long + "x": api.ErrLarge, "0\r\n" + long + "x": api.ErrLarge,
		"0\r\n" + long[:1000] + "\r\n" + strings.Repeat("y\r\n", 24) + "y": api.ErrLarge,
		long + "\n": api.ErrForm, long + "\r\n": api.ErrForm,
	} {
		for _, size := range []int{1, 2, 5, 10000} {
			r := New(10)
			n, err := feed(r, bad+"\r\n0\r\n\r\n", size)
			if n != len(bad) || !errors.Is(err, want) || r.Done() {
				t.Errorf("P8.1: %.30q cut by %d: %d of %d, %v", bad, size, n, len(bad), err)
			}
			for _, s := range []string{"", "0\r\n\r\n"} {
				if n, err := r.Feed(s); n != 0 || !errors.Is(err, api.ErrBreach) || r.Done() {
					t.Errorf("P8.1: %.30q, dead: %d, %v", bad, n, err)
				}
			}
		}
	}
}

// P8.1: a body's limit.
func TestMost(t *testing.T) {
	if n, err := New(0).Feed("0\r\n\r\n"); n != 5 || err != nil {
		t.Errorf("P8.1: a body of nothing: %d, %v", n, err)
	}
	if n, err := New(0).Feed("1\r\na"); n != 3 || !errors.Is(err, api.ErrLarge) {
		t.Errorf("P8.1: one too many: %d, %v", n, err)
	}
	r := New(3)
	if n, err := r.Feed("2\r\nab\r\n2\r\n"); n != 10 || !errors.Is(err, api.ErrLarge) || r.Body() != "ab" {
		t.Errorf("P8.1: two chunks: %d, %v, %q", n, err, r.Body())
	}
}

// P8.2: chunks as they are put; they come back.
func TestWrap(t *testing.T) {
	for n, head := range map[int]string{1: "1", 10: "a", 255: "ff", 256: "100"} {
		s := strings.Repeat("x", n)
		if got := Wrap(s); got != head+"\r\n"+s+"\r\n" {
			t.Errorf("P8.2: %d bytes: %q", n, got)
		}
	}
	if Wrap("") != "" || Last() != "0\r\n\r\n" {
		t.Error("P8.2: nothing, the last one")
	}
	r, s := New(1000), Wrap("ab")+Wrap("")+Wrap("\r\n")+Last()
	if n, err := r.Feed(s); n != len(s) || err != nil || r.Body() != "ab\r\n" || !r.Done() {
		t.Errorf("P8.3: %d, %v, %q", n, err, r.Body())
	}
}

// P8.3: whatever comes, however it is cut: as much is taken, the same body, the same error.
func TestAnyCut(t *testing.T) {
	pieces := []string{"\r\n", "\r\n", "\r", "\n", "0", "1", "3", "a", "abc", ";x", " ", "3\r\nabc\r\n", "0\r\n", "T: u\r\n"}
	for seed := range int64(3000) {
		rnd := rand.New(rand.NewSource(seed))
		s := ""
		for range rnd.Intn(9) {
			s += pieces[rnd.Intn(len(pieces))]
		}
		most, size := rnd.Intn(9), 1+rnd.Intn(6)
		whole, cut := New(most), New(most)
		want, wrong := feed(whole, s, len(s)+1)
		got, err := feed(cut, s, size)
		if got != want || err != wrong || cut.Body() != whole.Body() || cut.Done() != whole.Done() {
			t.Fatalf("P8.3: %q cut by %d: %d, %v, not %d, %v", s, size, got, err, want, wrong)
		}
	}
}
