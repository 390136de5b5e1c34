package reply

import (
	"testing"

	"conduit/api"
)

// P10.1: the words of each status.
func TestReason(t *testing.T) {
	for status, want := range map[int]string{
		100: "Continue", 200: "OK", 204: "No Content", 302: "Found", 304: "Not Modified", 400: "Bad Request", 404: "Not Found", 405: "Method Not Allowed",
		413: "Content Too Large", 431: "Request Header Fields Too Large", 500: "Internal Server Error", 501: "Not Implemented", 502: "Bad Gateway",
		503: "Service Unavailable", 504: "Gateway Timeout", 505: "HTTP Version Not Supported", 0: "Unknown", -1: "Unknown", 201: "Unknown", 506: "Unknown",
	} {
		if got := Reason(status); got != want {
			t.Errorf("P10.1: Reason %d: %s", status, got)
		}
	}
}

// P10.1: what has no body.
func TestBare(t *testing.T) {
	if !Bare("HEAD", 200) || !Bare("GET", 204) || !Bare("", 304) || Bare("GET", 200) || Bare("head", 200) || Bare("GET", 205) || Bare("GET", 100) {
		t.Error("P10.1: Bare")
	}
}

// P10.1: the gateway's own responses, byte by byte.
func TestPlain(t *testing.T) {
	const length, kind = "Content-Length: 14\r\n", "Content-Type: text/plain\r\n"
	for i, c := range []struct {
		method string
		status int
		keep   bool
		want   string
	}{
		{"GET", 404, true, "HTTP/1.1 404 Not Found\r\n" + length + kind + "Connection: keep-alive\r\n\r\n404 Not Found\n"},
		{"", 404, false, "HTTP/1.1 404 Not Found\r\n" + length + kind + "Connection: close\r\n\r\n404 Not Found\n"},
		{"HEAD", 404, false, "HTTP/1.1 404 Not Found\r\n" + length + kind + "Connection: close\r\n\r\n"},
		{"GET", 204, true, "HTTP/1.1 204 No Content\r\n" + kind + "Connection: keep-alive\r\n\r\n"},
		{"HEAD", 304, false, "HTTP/1.1 304 Not Modified\r\n" + kind + "Connection: close\r\n\r\n"},
		{"GET", 599, false, "HTTP/1.1 599 Unknown\r\nContent-Length: 12\r\n" + kind + "Connection: close\r\n\r\n599 Unknown\n"},
	} {
		if got := Plain(api.Request{Method: c.method, Minor: i % 2}, c.status, c.keep); got != c.want {
			t.Errorf("P10.1: row %d: %q", i, got)
		}
	}
}

// P10.2: a script's head: its fields, but for those that are the gateway's to say; how its body is framed.
func TestHead(t *testing.T) {
	h := api.Head{Status: 200, Reason: "So so", Fields: []api.Pair{{Name: "B", Value: "1"}, {Name: "CONNECTION", Value: "x"}, {Name: "A", Value: "2"}, {Name: "transfer-encoding", Value: "x"},
		{Name: "Content-length", Value: "9"}, {Name: "STATUS", Value: "9"}, {Name: "Keep-alive", Value: "x"}, {Name: "b", Value: "3"}}}
	const front = "HTTP/1.1 200 So so\r\nB: 1\r\nA: 2\r\nb: 3\r\n"
	const chunked, alive, closed = "Transfer-Encoding: chunked\r\n", "Connection: keep-alive\r\n\r\n", "Connection: close\r\n\r\n"
	for i, c := range []struct {
		method string
		minor  int
		keep   bool
		want   string
	}{
		{"GET", 1, true, chunked + alive}, {"GET", 1, false, chunked + closed}, {"GET", 0, true, closed}, {"GET", 0, false, closed},
		{"HEAD", 1, true, alive}, {"HEAD", 1, false, closed}, {"HEAD", 0, true, alive}, {"GET", 2, true, closed},
	} {
		if got := Head(api.Request{Method: c.method, Minor: c.minor}, h, c.keep); got != front+c.want {
			t.Errorf("P10.2: row %d: %q", i, got)
		}
	}
	if got := Head(api.Request{Method: "GET", Minor: 1}, api.Head{Status: 204}, true); got != "HTTP/1.1 204 \r\n"+alive {
		t.Errorf("P10.2: no Reason, no fields: %q", got)
	}
}

// P10.2, P10.3: parts and the end, by how the body is framed.
func TestPartsAndEnd(t *testing.T) {
	for i, c := range []struct {
		method        string
		minor, status int
		part, end     string
		chunked       bool
	}{
		{"GET", 1, 200, "b\r\n0123456789a\r\n", "0\r\n\r\n", true}, {"GET", 0, 200, "0123456789a", "", false}, {"HEAD", 1, 200, "", "", false},
		{"GET", 1, 304, "", "", false}, {"GET", 0, 204, "", "", false}, {"GET", 2, 200, "0123456789a", "", false},
	} {
		r, h := api.Request{Method: c.method, Minor: c.minor}, api.Head{Status: c.status}
		if Part(r, h, "0123456789a") != c.part || Part(r, h, "") != "" || End(r, h) != c.end || Chunked(r, h) != c.chunked {
			t.Errorf("P10.2: row %d: %q, %q", i, Part(r, h, "0123456789a"), End(r, h))
		}
	}
	if Continue() != "HTTP/1.1 100 Continue\r\n\r\n" {
		t.Errorf("P10.2: Continue: %q", Continue())
	}
}
