package serve_test

import (
	"slices"
	"strconv"
	"strings"
	"testing"

	"pillarbox/api"
	"pillarbox/serve"
	"pillarbox/verb"
)

// modelled tells all events of a stream by the chapter's words, line by line,
// if each Keep is answered at once with the next of codes (and with the first
// again behind the last); if there are none, no Keep is answered.
func modelled(stream string, most int, codes []int) []api.Event {
	events := says("220 mx.test\r\n")
	var from *string // nil without a sender
	var rcpts []string
	greeted, kept := false, 0
	lines := strings.Split(stream, "\r\n")
	lines = lines[:len(lines)-1] // the last one is not whole
	for i := 0; i < len(lines); i++ {
		var v api.Verb
		code := 500
		if len(lines[i]) <= api.MaxCommand {
			v, code = verb.Parse(lines[i])
		}
		text := ""
		switch {
		case code != 0:
		case v.Name == "QUIT":
			return append(append(events, say("221 bye\r\n")), shut())
		case v.Name == "NOOP":
			code = 250
		case v.Name == "VRFY":
			code = 252
		case v.Name == "MAIL":
			switch {
			case !greeted || from != nil:
				code = 503
			case v.Size > most:
				code = 552
			default:
				code, from = 250, &v.Arg
			}
		case v.Name == "RCPT":
			switch {
			case from == nil:
				code = 503
			case len(rcpts) == api.MaxRcpts:
				code = 452
			default:
				code, rcpts = 250, append(rcpts, v.Arg)
			}
		case v.Name == "DATA" && len(rcpts) == 0:
			code = 503
		case v.Name == "DATA":
			events = append(events, say("354 go on\r\n"))
			end := slices.Index(lines[i+1:], ".")
			if end < 0 {
				return events
			}
			body, wrong := modelledBody(lines[i+1:i+1+end], most)
			i += 1 + end
			code = wrong
			if wrong == 0 {
				events = append(events, keep(*from, body, rcpts...))
				if len(codes) == 0 {
					return events
				}
				code = codes[kept%len(codes)]
				kept++
				if code < 300 {
					code = 250
				}
			}
			from, rcpts = nil, nil
		default: // HELO, EHLO, RSET
			code, from, rcpts = 250, nil, nil
			greeted = greeted || v.Name != "RSET"
			if v.Name == "EHLO" {
				text = "250-mx.test\r\n250-SIZE " + strconv.Itoa(most) + "\r\n250 PIPELINING\r\n"
			}
		}
		if text == "" {
			text = strconv.Itoa(code) + " no\r\n"
			if code == 250 {
				text = "250 ok\r\n"
			}
		}
		events = append(events, say(text))
	}
	return events
}

// modelledBody answers the body of these lines, or the code of what is wrong.
func modelledBody(lines []string, most int) (string, int) {
	body := ""
	for _, text := range lines {
		if len(text) > api.MaxText || strings.Contains(text, "\r") || strings.Contains(text, "\n") {
			return "", 500
		}
		if text != "" && text[0] == '.' {
			text = text[1:]
		}
		body += text + "\n"
		if len(body) > most {
			return "", 552
		}
	}
	return body, 0
}

// played feeds a stream in parts of so many bytes, takes what is told behind
// each part, or in the end alone, and answers Keeps at once.
func played(t *testing.T, stream string, most, part int, late bool, codes []int) []api.Event {
	t.Helper()
	s := serve.New(host, most)
	var out []api.Event
	kept := 0
	take := func() {
		for e, there := s.Next(); there; e, there = s.Next() {
			out = append(out, e)
			if e.Kind == api.Keep && len(codes) > 0 {
				wantAnswer(t, s, codes[kept%len(codes)], true)
				kept++
			}
			wantOver(t, s, e.Kind == api.Shut)
		}
	}
	for len(stream) > 0 {
		n := min(part, len(stream))
		feed(s, stream[:n])
		stream = stream[n:]
		if !late {
			take()
		}
	}
	take()
	return out
}

func wantModelled(t *testing.T, stream string, most int, codes ...int) {
	t.Helper()
	want := modelled(stream, most, codes)
	for _, part := range []int{1, 7, len(stream) + 1} {
		for _, late := range []bool{false, true} {
			if got := played(t, stream, most, part, late, codes); !slices.EqualFunc(got, want, same) {
				t.Fatalf("of %q, size %d, in parts of %d, late %v:%s\nwanted:%s", stream, most, part, late, show(got), show(want))
			}
		}
	}
}

// rows hands each row of at most most of these pieces to f.
func rows(pieces []string, most int, f func(string)) {
	var more func(s string, left int)
	more = func(s string, left int) {
		f(s)
		if left == 0 {
			return
		}
		for _, p := range pieces {
			more(s+p, left-1)
		}
	}
	more("", most)
}

func TestRowsOfCommands(t *testing.T) {
	pieces := []string{"HELO a\r\n", "EHLO a\r\n", "MAIL FROM:<A@B>\r\n", "MAIL FROM:<> SIZE=4\r\n", "RCPT TO:<c@D>\r\n", "DATA\r\n", "RSET\r\n", ".\r\n", "x\r\n", "QUIT\r\n"}
	rows(pieces, 4, func(s string) {
		wantModelled(t, s, 3, 250, 452)
	})
	rows(pieces, 3, func(s string) {
		wantModelled(t, "HELO a\r\nMAIL FROM:<A@B>\r\n"+s, 3, 554)
		wantModelled(t, "HELO a\r\nMAIL FROM:<A@B> SIZE=3\r\nRCPT TO:<e@f>\r\n"+s, 4, 299, 300)
		wantModelled(t, "HELO a\r\nMAIL FROM:<>\r\n"+strings.Repeat("RCPT TO:<e@f>\r\n", api.MaxRcpts-1)+s, 4, 299, 300)
	})
}

func TestRowsOfBodies(t *testing.T) {
	begin := "EHLO a\r\nMAIL FROM:<A@B>\r\nRCPT TO:<c@D>\r\nDATA\r\n"
	long := strings.Repeat("l", api.MaxText+1) + "\r\n"
	rows([]string{"\r\n", ".", "x", "\r", "\n"}, 6, func(s string) {
		wantModelled(t, begin+s+".\r\nNOOP\r\n", 3, 250)
	})
	rows([]string{"\r\n", "..\r\n", "xx\r\n", "x\ny\r\n", long, ".\r\n", begin[len("EHLO a\r\n"):]}, 4, func(s string) {
		wantModelled(t, begin+s+".\r\nNOOP\r\n", 4, 250, 451)
		wantModelled(t, begin+s+".\r\nNOOP\r\n", 4)
	})
}
