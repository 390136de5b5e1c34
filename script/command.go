package script

import (
	"strings"

	"conduit/api"
	"conduit/fault"
	"conduit/octet"
)

// maxDigits of a number.
const maxDigits = 6

// command: a line, read.
type command struct {
	verb string
	n    [3]int // its numbers, in order
	text string
}

// words tells what stands behind a verb: C a client, P a connection's, I an id's, N a number, T a text (the last one, if
// any); false of no verb.
func words(verb string) (string, bool) {
	switch verb {
	case "tick", "stop", "conns", "right", "empty":
		return "", true
	case "connect", "close", "waits":
		return "C", true
	case "shut", "live":
		return "P", true
	case "calm":
		return "N", true
	case "drain", "got", "told":
		return "CN", true
	case "take":
		return "PN", true
	case "end":
		return "PIN", true
	case "feed":
		return "CT", true
	case "raw":
		return "PT", true
	case "out", "err":
		return "PIT", true
	}
	return "", false
}

// parse reads a line.
func parse(line string) (command, error) {
	verb, rest, more := strings.Cut(line, " ")
	all, ok := words(verb)
	counted, text := strings.CutSuffix(all, "T")
	c := command{verb: verb}
	for i := 0; i < len(counted) && ok; i++ {
		word := "" // where there is no more it stays so, and is no number
		word, rest, more = strings.Cut(rest, " ")
		c.n[i], ok = number(counted[i], word)
	}
	// a text may be nothing, but then there is no blank ahead of it
	if !ok || more && (!text || rest == "") {
		return command{}, fault.Of(api.ErrLine, "no line of a script")
	}
	c.text = strings.NewReplacer(`\n`, "\r\n", `\l`, "\n").Replace(rest)
	return c, nil
}

// number reads a number without a nought ahead. A client's must be one of those that may connect; whether a connection,
// an id, a turn is there only the world can tell.
func number(kind byte, word string) (int, bool) {
	if len(word) > maxDigits || len(word) > 1 && word[0] == '0' {
		return 0, false
	}
	n, ok := octet.Dec(word)
	if !ok || kind == 'C' && n >= api.MaxClients {
		return 0, false
	}
	return n, true
}
