package script

import (
	"strings"

	"conduit/api"
	"conduit/fault"
	"conduit/octet"
)

// maxDigits of a number.
const maxDigits = 6

// command: a line, read.
type command struct {
	verb string
	n    [3]int // its numbers, in order
	text string
}

// shape tells how many numbers stand behind a verb, and whether a text does; false of no verb.
func shape(verb string) (int, bool, bool) {
	switch verb {
	case "tick", "stop", "conns", "right", "empty":
		return 0, false, true
	case "connect", "close", "shut", "calm", "live", "waits":
		return 1, false, true
	case "drain", "take", "got", "told":
		return 2, false, true
	case "end":
		return 3, false, true
	case "feed", "raw":
		return 1, true, true
	case "out", "err":
		return 2, true, true
	}
	return 0, false, false
}

// parse reads a line.
func parse(line string) (command, error) {
	verb, rest, more := strings.Cut(line, " ")
	count, text, ok := shape(verb)
	c := command{verb: verb}
	for i := 0; i < count && ok; i++ {
		word := "" // where there is no more it stays so, and is no number
		word, rest, more = strings.Cut(rest, " ")
		c.n[i], ok = number(word)
	}
	// a text may be nothing, but then there is no blank ahead of it
	if !ok || more && (!text || rest == "") {
		return command{}, fault.Of(api.ErrLine, "no line of a script")
	}
	c.text = strings.NewReplacer(`\n`, "\r\n", `\l`, "\n").Replace(rest)
	return c, nil
}

// number reads a number without a nought ahead.
func number(word string) (int, bool) {
	if len(word) > maxDigits || len(word) > 1 && word[0] == '0' {
		return 0, false
	}
	return octet.Dec(word)
}
