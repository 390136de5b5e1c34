package request

import (
	"errors"
	"fmt"
	"math/rand"
	"reflect"
	"strings"
	"testing"

	"conduit/api"
)

const big = 1 << 30

// feed hands s over in parts of so many bytes, and tells how many were taken in all.
func feed(r *Reader, s string, size int) (int, error) {
	taken := 0
	for i := 0; i < len(s); i += size {
		part := s[i:min(i+size, len(s))]
		n, err := r.Feed(part)
		taken += n
		if err != nil || n < len(part) {
			return taken, err
		}
	}
	return taken, nil
}

// lines puts lines with their ends, `|` between them.
func lines(s string) string { return strings.ReplaceAll(s, "|", "\r\n") }

func fields(n int) string {
	s := ""
	for i := range n {
		s += fmt.Sprintf("F%d: v|", i)
	}
	return s
}

// P9.1, P9.3: requests that are whole, however they are cut; what is behind isn't taken.
func TestWhole(t *testing.T) {
	host := api.Pair{Name: "Host", Value: "a"}
	for s, want := range map[string]api.Request{
		"GET / HTTP/1.0||":                                                        {Method: "GET", Target: "/"},
		"||GET / HTTP/1.0||":                                                      {Method: "GET", Target: "/"},
		"|OPTIONS * HTTP/1.1|HOST: a||":                                           {Method: "OPTIONS", Target: "*", Minor: 1, Fields: []api.Pair{{Name: "HOST", Value: "a"}}},
		"GET /?q HTTP/1.1|Host: a|B:  c d ||":                                     {Method: "GET", Target: "/?q", Minor: 1, Fields: []api.Pair{host, {Name: "B", Value: "c d"}}},
		"PUT / HTTP/1.0|Content-Length: 003||abc":                                 {Method: "PUT", Target: "/", Fields: []api.Pair{{Name: "Content-Length", Value: "003"}}, Body: "abc"},
		"PUT / HTTP/1.0|Content-Length: 0||":                                      {Method: "PUT", Target: "/", Fields: []api.Pair{{Name: "Content-Length", Value: "0"}}},
		"GET / HTTP/1.1|Host:|Content-Length: 2|content-length: 2||\r\n":          {Method: "GET", Target: "/", Minor: 1, Fields: []api.Pair{{Name: "Host"}, {Name: "Content-Length", Value: "2"}, {Name: "content-length", Value: "2"}}, Body: "\r\n"},
		"POST / HTTP/1.1|Host: a|Transfer-Encoding: Chunked||2;x|ab|1|c|0|T: u||": {Method: "POST", Target: "/", Minor: 1, Fields: []api.Pair{host, {Name: "Transfer-Encoding", Value: "Chunked"}}, Body: "abc"},
		"POST / HTTP/1.1|Host: a|Transfer-Encoding: chunked||0||":                 {Method: "POST", Target: "/", Minor: 1, Fields: []api.Pair{host, {Name: "Transfer-Encoding", Value: "chunked"}}},
	} {
		for _, size := range []int{1, 2, 3, 5, 17, big} {
			r := New(big, big)
			n, err := feed(r, lines(s)+"GET", size)
			if n != len(lines(s)) || err != nil || !r.Done() || !reflect.DeepEqual(r.Request(), want) {
				t.Errorf("P9.1: %q cut by %d: %d, %v, %v", s, size, n, err, r.Request())
			}
			if n, err := r.Feed("GET"); n != 0 || err != nil || !r.Done() {
				t.Errorf("P9.2: %q, behind it: %d, %v", s, n, err)
			}
		}
		r := New(big, big)
		if n, err := feed(r, lines(s)[:len(lines(s))-1], big); err != nil || r.Done() {
			t.Errorf("P9.2: %q but for a byte: %d, %v", s, n, err)
		}
	}
}

type wrong struct {
	s    string // the last byte of it makes the error
	want error
}

func checkWrong(t *testing.T, head, body int, rows ...wrong) {
	t.Helper()
	for _, c := range rows {
		for _, size := range []int{1, 3, big} {
			r := New(head, body)
			n, err := feed(r, lines(c.s)+"\r\n\r\n", size)
			if n != len(lines(c.s)) || !errors.Is(err, c.want) || r.Done() || r.Expects() {
				t.Errorf("P9.1: %.60q cut by %d: %d of %d, %v", c.s, size, n, len(lines(c.s)), err)
			}
			for _, s := range []string{"", "GET / HTTP/1.0\r\n\r\n"} {
				if n, err := r.Feed(s); n != 0 || !errors.Is(err, api.ErrBreach) || r.Done() {
					t.Errorf("P9.1: %.60q, dead: %d, %v", c.s, n, err)
				}
			}
		}
	}
}

// P9.1: lines that may not be, each told at the byte that makes it so.
func TestWrongLines(t *testing.T) {
	const get = "GET / HTTP/1.1|"
	checkWrong(t, big, big,
		wrong{"\n", api.ErrForm}, wrong{"\rG", api.ErrForm}, wrong{"\r\r", api.ErrForm}, wrong{"GET / HTTP/1.1\n", api.ErrForm}, wrong{"GET\r ", api.ErrForm},
		wrong{"|||", api.ErrForm}, wrong{"|| |", api.ErrForm}, wrong{"GET /|", api.ErrForm}, wrong{"GET / HTTP/2.0|", api.ErrVersion}, wrong{"GET a HTTP/1.1|", api.ErrForm},
		wrong{"GET /" + strings.Repeat("t", api.MaxTarget) + " HTTP/1.1|", api.ErrLarge},
		wrong{get + "A|", api.ErrForm}, wrong{get + " A: b|", api.ErrForm}, wrong{get + "A: b|\tc|", api.ErrForm}, wrong{get + " |", api.ErrForm}, wrong{get + "A: b\rc", api.ErrForm}, wrong{get + "A: b\n", api.ErrForm}, wrong{get + "Host: a|\n", api.ErrForm},
		wrong{get + "A: \x01|", api.ErrForm}, wrong{get + strings.Repeat("n", api.MaxName+1) + ": b|", api.ErrLarge}, wrong{get + "A:" + strings.Repeat("v", api.MaxValue+1) + "|", api.ErrLarge},
		wrong{get + fields(api.MaxFields) + "X: y|", api.ErrLarge}, wrong{get + fields(api.MaxFields) + "X|", api.ErrForm})
	r := New(big, big)
	if _, err := r.Feed(lines(get + fields(api.MaxFields-1) + "Host: a||")); err != nil || !r.Done() {
		t.Errorf("P9.1: as many fields as may be: %v", err)
	}
}

// P9.1: what the head as a whole may not be, in the order of the errors.
func TestWrongHeads(t *testing.T) {
	const one, zero = "GET / HTTP/1.1|", "GET / HTTP/1.0|"
	const host, te = "Host: a|", "Transfer-Encoding: chunked|"
	checkWrong(t, big, 10,
		wrong{one + "|", api.ErrForm}, wrong{one + host + "host: a||", api.ErrForm}, wrong{zero + host + host + "|", api.ErrForm},
		wrong{one + host + te + "Content-Length: 1||", api.ErrForm}, wrong{zero + te + "Content-Length: 1||", api.ErrForm},
		wrong{zero + "Content-Length:||", api.ErrForm}, wrong{zero + "Content-Length: +1||", api.ErrForm}, wrong{zero + "Content-Length: 1,1||", api.ErrForm}, wrong{zero + "Content-Length: 1111111111||", api.ErrForm},
		wrong{zero + "Content-Length: 1|Content-Length: 01||", api.ErrForm}, wrong{zero + "Content-Length: 1|Content-Length: 1|Content-Length: 2||", api.ErrForm}, wrong{zero + "Content-Length: 99|Content-Length: a||", api.ErrForm},
		wrong{zero + te + "|", api.ErrKind}, wrong{one + host + "Transfer-Encoding: gzip, chunked||", api.ErrKind}, wrong{one + host + "Transfer-Encoding:||", api.ErrKind}, wrong{one + host + te + te + "|", api.ErrKind}, wrong{one + te + te + "|", api.ErrForm},
		wrong{zero + "Content-Length: 11||", api.ErrFull}, wrong{one + "Content-Length: 11||", api.ErrForm}, wrong{zero + "Content-Length: 999999999||", api.ErrFull})
	for _, s := range []string{zero + host + "|", zero + "|", zero + "Content-Length: 10||0123456789"} {
		if r := New(big, 10); !fed(r, lines(s)) || !r.Done() {
			t.Errorf("P9.1: %q isn't whole", s)
		}
	}
}

func fed(r *Reader, s string) bool {
	n, err := r.Feed(s)
	return n == len(s) && err == nil
}

// P9.1: chunked bodies that may not be: too large a body is another error than too long a line.
func TestWrongChunks(t *testing.T) {
	const head = "GET / HTTP/1.1|Host: a|Transfer-Encoding: chunked||"
	long := strings.Repeat("x", api.MaxLine)
	checkWrong(t, big, 10,
		wrong{head + "x|", api.ErrForm}, wrong{head + "\n", api.ErrForm}, wrong{head + "1|ab", api.ErrForm},
		wrong{head + "b|", api.ErrFull}, wrong{head + "a|0123456789|1|", api.ErrFull},
		wrong{head + long + "x", api.ErrLarge}, wrong{head + "0|" + long + "x", api.ErrLarge})
	checkWrong(t, big, -1, wrong{head + "1|", api.ErrFull}, wrong{"PUT / HTTP/1.0|Content-Length: 1||", api.ErrFull})
	checkWrong(t, big, big, wrong{head + "fa1|", api.ErrFull}, wrong{"PUT / HTTP/1.0|Content-Length: 4001||", api.ErrFull})
	if r := New(big, 0); !fed(r, lines(head+"0||")) || !r.Done() {
		t.Error("P9.1: a chunked body of nothing")
	}
	if r := New(big, big); !fed(r, lines(head+"fa0|"+strings.Repeat("b", 4000)+"|0||")) || len(r.Request().Body) != 4000 {
		t.Error("P9.1: as many bytes of a body as may be")
	}
}

// P9.1: a head's limit, at it and one past it; of one byte it is ahead of the other errors.
func TestHeadLimit(t *testing.T) {
	s := lines("||GET / HTTP/1.0|A: b||")
	if r := New(len(s), 0); !fed(r, s) || !r.Done() {
		t.Error("P9.1: a head at the limit")
	}
	for i := 1; i < len(s); i++ {
		r := New(i, 0)
		if n, err := r.Feed(s); n != i+1 || !errors.Is(err, api.ErrLarge) {
			t.Errorf("P9.1: limit %d: %d, %v", i, n, err)
		}
	}
	checkWrong(t, 3, 0, wrong{"GET\n", api.ErrLarge}, wrong{"GE\rx", api.ErrLarge}, wrong{"GE\n", api.ErrForm}, wrong{"||", api.ErrLarge})
	checkWrong(t, 0, 0, wrong{"GE", api.ErrLarge})
	checkWrong(t, -5, 0, wrong{"\r\n", api.ErrLarge})
	most := "GET / HTTP/1.0|"
	for range 4 {
		most += "A: " + strings.Repeat("x", 480) + "|"
	}
	most += "A: " + strings.Repeat("x", api.MaxHead-len(lines(most))-7) + "||"
	if r := New(big, 0); len(lines(most)) != api.MaxHead || !fed(r, lines(most)) || !r.Done() {
		t.Error("P9.1: the greatest head")
	}
	checkWrong(t, big, 0, wrong{most[:len(most)-2] + "x||", api.ErrLarge})
}

// P9.2: the request as far as it was read, and what is answered is new memory.
func TestRequestSoFar(t *testing.T) {
	r := New(big, big)
	fed(r, lines("|GET /x HTTP/1.1"))
	if !reflect.DeepEqual(r.Request(), api.Request{}) {
		t.Errorf("P9.2: ahead of the line's end: %v", r.Request())
	}
	fed(r, lines("|A: b|C:"))
	want := api.Request{Method: "GET", Target: "/x", Minor: 1, Fields: []api.Pair{{Name: "A", Value: "b"}}}
	if !reflect.DeepEqual(r.Request(), want) {
		t.Errorf("P9.2: in the head: %v", r.Request())
	}
	r.Request().Fields[0].Name = "changed"
	_ = append(r.Request().Fields, api.Pair{Name: "X"})
	r.Feed("\x01\r\n")
	if !reflect.DeepEqual(r.Request(), want) {
		t.Errorf("P9.2: behind an error: %v", r.Request())
	}
	r = New(big, big)
	r.Feed(lines("GET / HTTP/1.0|" + fields(api.MaxFields+1)))
	if got := len(r.Request().Fields); got != api.MaxFields+1 {
		t.Errorf("P9.2: the field that is one too many: %d", got)
	}
}

// P9.2: who waits for a word ahead of the body.
func TestExpects(t *testing.T) {
	const one = "PUT / HTTP/1.1|Host: a|"
	for s, want := range map[string]bool{
		one + "Expect: 100-Continue|Content-Length: 2||":             true,
		one + "Expect: x, 100-continue|Transfer-Encoding: chunked||": true,
		one + "Expect: 100-continue|Content-Length: 2|":              false,
		one + "Expect: 100-continue|Content-Length: 2||a":            false,
		one + "Expect: 100-continue|Content-Length: 2||ab":           false,
		one + "Expect: 100-continue|Transfer-Encoding: chunked||0":   false,
		one + "Expect: 100-continue|Content-Length: 0||":             false,
		one + "Expect: 100-continue||":                               false,
		one + "Expect: 100|Content-Length: 2||":                      false,
		one + "Content-Length: 2||":                                  false,
		"PUT / HTTP/1.0|Expect: 100-continue|Content-Length: 2||":    false,
	} {
		r := New(big, big)
		if !fed(r, lines(s)) || r.Expects() != want {
			t.Errorf("P9.2: Expects %q: %v", s, r.Expects())
		}
	}
}

// P9.2: what begins a request.
func TestBegan(t *testing.T) {
	for s, want := range map[string]bool{"": false, "\r": false, "\r\n": false, "\r\n\r\n": false, "\r\n\r\n\r": false, "G": true, "\r\nG": true, "\r\n\r\n ": true, "\rx": true, "GET / HTTP/1.0\r\n\r\n": true} {
		r := New(big, big)
		r.Feed(s)
		if r.Began() != want {
			t.Errorf("P9.2: Began %q: %v", s, r.Began())
		}
	}
}

// P9.2: the status of an error.
func TestStatus(t *testing.T) {
	for e, want := range map[error]int{
		nil: 0, api.ErrForm: 400, api.ErrVersion: 505, api.ErrLarge: 431, api.ErrFull: 413, api.ErrKind: 501,
		api.ErrBreach: 500, api.ErrShort: 500, api.OK: 500, errors.New("x"): 500,
	} {
		if got := Status(e); got != want {
			t.Errorf("P9.2: Status %v: %d", e, got)
		}
		if e != nil && Status(fmt.Errorf("wrapped: %w", e)) != want {
			t.Errorf("P9.2: Status %v, wrapped", e)
		}
	}
}

// P9.2: whether the connection goes on.
func TestKeep(t *testing.T) {
	for i, c := range []struct {
		minor  int
		values []string
		want   bool
	}{
		{1, nil, true}, {0, nil, false}, {1, []string{"x, Close"}, false}, {1, []string{"keep-alive", "close"}, false}, {1, []string{"closed"}, true},
		{0, []string{"Keep-Alive"}, true}, {0, []string{"x", "y, keep-alive"}, true}, {0, []string{"keep-alive, close"}, false}, {0, []string{"close", "keep-alive"}, false}, {0, []string{"keep"}, false},
	} {
		q := api.Request{Minor: c.minor}
		for _, v := range c.values {
			q.Fields = append(q.Fields, api.Pair{Name: "cOnnection", Value: v})
		}
		if Keep(q) != c.want {
			t.Errorf("P9.2: Keep, row %d", i)
		}
	}
}

// P9.3: whatever comes, however it is cut: as much is taken, the same request, the same error.
func TestAnyCut(t *testing.T) {
	pieces := []string{"|", "|", "\r", "\n", " ", "GET / HTTP/1.1|Host: a|", "GET / HTTP/1.0|", "HTTP/1.1", "PUT ", "/", "Content-Length: 3|", "Transfer-Encoding: chunked|", "Expect: 100-continue|", "A: b|", "3|abc|", "0||", "abc"}
	for seed := range int64(5000) {
		rnd := rand.New(rand.NewSource(seed))
		s := ""
		for range rnd.Intn(9) {
			s += pieces[rnd.Intn(len(pieces))]
		}
		s = lines(s)
		head, body, size := rnd.Intn(150), rnd.Intn(8), 1+rnd.Intn(7)
		whole, cut := New(head, body), New(head, body)
		want, wrong := feed(whole, s, len(s)+1)
		got, err := feed(cut, s, size)
		same := reflect.DeepEqual(cut.Request(), whole.Request()) && cut.Done() == whole.Done() && cut.Expects() == whole.Expects() && cut.Began() == whole.Began()
		if got != want || err != wrong || !same {
			t.Fatalf("P9.3: %q cut by %d: %d, %v, not %d, %v", s, size, got, err, want, wrong)
		}
	}
}
