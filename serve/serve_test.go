package serve_test

import (
	"bytes"
	"fmt"
	"math"
	"slices"
	"strconv"
	"strings"
	"testing"
	"unsafe"

	"pillarbox/api"
	"pillarbox/serve"
)

// The replies that a session may say by itself (chapter 9's Words).
const (
	ok    = "250 ok\r\n"
	vrfy  = "252 no\r\n"
	bye   = "221 bye\r\n"
	goOn  = "354 go on\r\n"
	many  = "452 no\r\n"
	line  = "500 no\r\n"
	form  = "501 no\r\n"
	order = "503 no\r\n"
	great = "552 no\r\n"
	other = "555 no\r\n"
)

const (
	host = "mx.test"
	size = 100
)

// offer is what EHLO is told by a session of newSession.
const offer = "250-mx.test\r\n250-SIZE 100\r\n250 PIPELINING\r\n"

func say(text string) api.Event {
	return api.Event{Kind: api.Say, Text: text}
}

func keep(from, body string, rcpts ...string) api.Event {
	return api.Event{Kind: api.Keep, Mail: api.Mail{From: from, Rcpts: rcpts, Body: []byte(body)}}
}

func shut() api.Event {
	return api.Event{Kind: api.Shut}
}

func says(texts ...string) []api.Event {
	var out []api.Event
	for _, text := range texts {
		out = append(out, say(text))
	}
	return out
}

// same holds all fields against each other, those that have no meaning in an
// event too (R3): the lists that are nil and those that are empty are the same.
func same(a, b api.Event) bool {
	x, y := a.Mail, b.Mail
	return a.Kind == b.Kind && a.Text == b.Text && x.ID == y.ID && x.Parent == y.Parent && x.Born == y.Born &&
		x.From == y.From && slices.Equal(x.Rcpts, y.Rcpts) && bytes.Equal(x.Body, y.Body)
}

func show(events []api.Event) string {
	var out strings.Builder
	for _, e := range events {
		fmt.Fprintf(&out, "\n\t%d %q", e.Kind, e.Text)
		if e.Kind == api.Keep {
			fmt.Fprintf(&out, " %q %q %q", e.Mail.From, e.Mail.Rcpts, e.Mail.Body)
		}
	}
	return out.String()
}

// all takes the events that are there, and asks that none is there then.
func all(t *testing.T, s *serve.Session) []api.Event {
	t.Helper()
	var out []api.Event
	for e, there := s.Next(); there; e, there = s.Next() {
		out = append(out, e)
	}
	for range 2 {
		if e, there := s.Next(); there || !same(e, api.Event{}) {
			t.Errorf("behind the last event: %+v, %v", e, there)
		}
	}
	return out
}

// want asks for these events, and no more.
func want(t *testing.T, s *serve.Session, events ...api.Event) {
	t.Helper()
	if got := all(t, s); !slices.EqualFunc(got, events, same) {
		t.Errorf("told:%s\nwanted:%s", show(got), show(events))
	}
}

func feed(s *serve.Session, texts ...string) {
	for _, text := range texts {
		s.Feed([]byte(text))
	}
}

// wantReply feeds a line, and asks for what it is told.
func wantReply(t *testing.T, s *serve.Session, command string, replies ...string) {
	t.Helper()
	feed(s, command+"\r\n")
	want(t, s, says(replies...)...)
}

// newSession has told its 220.
func newSession(t *testing.T) *serve.Session {
	t.Helper()
	s := serve.New(host, size)
	want(t, s, say("220 mx.test\r\n"))
	return s
}

// after has done these lines, and has told all of it.
func after(t *testing.T, lines ...string) *serve.Session {
	t.Helper()
	s := newSession(t)
	for _, text := range lines {
		feed(s, text+"\r\n")
	}
	all(t, s)
	return s
}

// ready is a session that takes a body, of a size.
func ready(t *testing.T, most int) *serve.Session {
	t.Helper()
	s := serve.New(host, most)
	feed(s, "HELO a\r\nMAIL FROM:<a@b>\r\nRCPT TO:<c@d>\r\nDATA\r\n")
	want(t, s, says("220 mx.test\r\n", ok, ok, ok, goOn)...)
	return s
}

func wantAnswer(t *testing.T, s *serve.Session, code int, want bool) {
	t.Helper()
	if got := s.Answer(code); got != want {
		t.Errorf("Answer(%d) = %v", code, got)
	}
}

func wantOver(t *testing.T, s *serve.Session, want bool) {
	t.Helper()
	if got := s.Over(); got != want {
		t.Errorf("Over() = %v", got)
	}
}

// The states that a client can find out by commands alone.
const (
	isNew       = "new"
	isGreeted   = "greeted"
	hasSender   = "with a sender"
	hasRcpts    = "with recipients"
	hasAllRcpts = "with all recipients"
)

// states has the lines that bring a new session there.
func states() map[string][]string {
	sender := []string{"HELO a", "MAIL FROM:<s@from>"}
	return map[string][]string{
		isNew:       nil,
		isGreeted:   {"HELO a"},
		hasSender:   sender,
		hasRcpts:    append(slices.Clip(sender), "RCPT TO:<r@to>"),
		hasAllRcpts: append(slices.Clip(sender), slices.Repeat([]string{"RCPT TO:<r@to>"}, api.MaxRcpts)...),
	}
}

// probe goes through commands till one tells in which state s was, and what
// mail it had begun.
func probe(t *testing.T, s *serve.Session) (string, api.Mail) {
	t.Helper()
	reply := func(command string) string {
		feed(s, command+"\r\n")
		got := all(t, s)
		if len(got) != 1 {
			t.Fatalf("%s: %s", command, show(got))
		}
		return got[0].Text
	}
	state := hasRcpts
	switch {
	case reply("DATA") == goOn:
	case reply("RCPT TO:<probe@x>") == ok:
		state = hasSender
		reply("DATA")
	case reply("MAIL FROM:<probe@x>") == ok:
		return isGreeted, api.Mail{}
	default:
		return isNew, api.Mail{}
	}
	feed(s, ".\r\n")
	got := all(t, s)
	if len(got) != 1 || got[0].Kind != api.Keep {
		t.Fatalf("no Keep: %s", show(got))
	}
	mail := got[0].Mail
	if state == hasSender {
		mail.Rcpts = mail.Rcpts[:len(mail.Rcpts)-1]
	} else if len(mail.Rcpts) == api.MaxRcpts {
		state = hasAllRcpts
	}
	return state, mail
}

func wantState(t *testing.T, s *serve.Session, state, from string, rcpts ...string) {
	t.Helper()
	got, mail := probe(t, s)
	if got != state || mail.From != from || !slices.Equal(mail.Rcpts, rcpts) {
		t.Errorf("%s, %q, %q, and not %s, %q, %q", got, mail.From, mail.Rcpts, state, from, rcpts)
	}
}

// wantUnchanged asks that s is still as states has it.
func wantUnchanged(t *testing.T, s *serve.Session, state string) {
	t.Helper()
	switch state {
	case hasSender:
		wantState(t, s, state, "s@from")
	case hasRcpts:
		wantState(t, s, state, "s@from", "r@to")
	case hasAllRcpts:
		wantState(t, s, state, "s@from", slices.Repeat([]string{"r@to"}, api.MaxRcpts)...)
	default:
		wantState(t, s, state, "")
	}
}

// wantNoChange asks for a reply to a command, in each state, that leaves the
// session as it is.
func wantNoChange(t *testing.T, command, reply string) {
	t.Helper()
	for state, lines := range states() {
		s := after(t, lines...)
		wantReply(t, s, command, reply)
		wantOver(t, s, false)
		wantUnchanged(t, s, state)
	}
}

// P9.1

func TestExample(t *testing.T) {
	s := serve.New("mx", 99)
	e, there := s.Next()
	if !there || !same(e, say("220 mx\r\n")) {
		t.Errorf("%+v, %v", e, there)
	}
	want(t, s)
}

func TestHost(t *testing.T) {
	label := strings.Repeat("Ab", 16)
	for _, c := range []struct{ host, want string }{
		{"mx.test", "mx.test"},
		{"MX.Test", "mx.test"},
		{"ABCDEFGHIJKLMNOPQRSTUVWXYZ.0-9", "abcdefghijklmnopqrstuvwxyz.0-9"},
		{"X", "x"},
		{"0", "0"},
		{label + "." + label[:31], strings.ToLower(label + "." + label[:31])},
		{label + "." + label, "x"},
		{label + "a", "x"},
		{"", "x"},
		{"_", "x"},
		{".", "x"},
		{"a.", "x"},
		{".a", "x"},
		{"a..b", "x"},
		{"-a", "x"},
		{"a-", "x"},
		{"a b", "x"},
		{" a", "x"},
		{"a@b", "x"},
		{"a\r\n", "x"},
		{"a\x00", "x"},
		{"\xff", "x"},
		{"\u212a", "x"}, // a K, whose small letter is that of ASCII
		{"mx.t\u00e9st", "x"},
		{strings.Repeat("a", 1<<16), "x"},
	} {
		s := serve.New(c.host, 7)
		want(t, s, say("220 "+c.want+"\r\n"))
		wantReply(t, s, "EHLO c", "250-"+c.want+"\r\n250-SIZE 7\r\n250 PIPELINING\r\n")
	}
}

func TestSize(t *testing.T) {
	for _, c := range []struct{ size, want int }{
		{1, 1}, {2, 2}, {99, 99}, {api.MaxBody - 1, api.MaxBody - 1}, {api.MaxBody, api.MaxBody},
		{0, 1}, {-1, 1}, {math.MinInt, 1}, {math.MinInt + 1, 1},
		{api.MaxBody + 1, api.MaxBody}, {1 << 40, api.MaxBody}, {math.MaxInt, api.MaxBody},
	} {
		s := serve.New("mx", c.size)
		want(t, s, say("220 mx\r\n"))
		wantReply(t, s, "EHLO c", "250-mx\r\n250-SIZE "+strconv.Itoa(c.want)+"\r\n250 PIPELINING\r\n")
		wantReply(t, s, "MAIL FROM:<> SIZE="+strconv.Itoa(c.want+1), great)
		wantReply(t, s, "MAIL FROM:<> SIZE="+strconv.Itoa(c.want), ok)
		wantReply(t, s, "RCPT TO:<c@d>", ok)
		wantReply(t, s, "DATA", goOn)
		body := bodyOf(c.want)
		feed(s, strings.ReplaceAll(body, "\n", "\r\n")+".\r\n")
		want(t, s, keep("", body, "c@d"))
		wantAnswer(t, s, 250, true)
		feed(s, "MAIL FROM:<>\r\nRCPT TO:<c@d>\r\nDATA\r\n"+strings.ReplaceAll(body, "\n", "\r\n")+"\r\n.\r\n")
		want(t, s, says(ok, ok, ok, goOn, great)...)
	}
}

// bodyOf is a body of n bytes, of lines that are not too long.
func bodyOf(n int) string {
	full := strings.Repeat("a", 499) + "\n"
	if rest := n % 500; rest > 0 {
		return strings.Repeat(full, n/500) + strings.Repeat("b", rest-1) + "\n"
	}
	return strings.Repeat(full, n/500)
}

// TestFirstIsTheGreeting: whatever came before anybody asked.
func TestFirstIsTheGreeting(t *testing.T) {
	s := serve.New(host, size)
	feed(s, "NOOP\r\nVRFY x\r\n")
	want(t, s, says("220 mx.test\r\n", ok, vrfy)...)
}

// TestLinesThatAreNotWhole: nothing is done of them, however long they are.
func TestLinesThatAreNotWhole(t *testing.T) {
	s := newSession(t)
	feed(s, "NO")
	want(t, s)
	feed(s, "OP\r")
	want(t, s)
	feed(s, "", "\n")
	want(t, s, say(ok))
	s.Feed(nil)
	want(t, s)
	feed(s, "NOOP\n")
	want(t, s)
	feed(s, "\rNOOP")
	want(t, s)
	feed(s, strings.Repeat("x", 10*api.MaxCommand))
	want(t, s)
	feed(s, "\r\nNOOP\r\n")
	want(t, s, says(line, ok)...)
}

// dialogue is a stream with all that a session has, and what it is told.
func dialogue() (string, []api.Event) {
	stream := "MAIL FROM:<a@b>\r\nnonsense\r\nEHLO Client\r\nMAIL FROM:<Ann@B.Test> SIZE=100\r\nRCPT TO:<c@D>\r\nRCPT TO:<c@d>\r\nDATA\r\n" +
		"hi\r\n..\r\n\r\n..x\r\n.y\r\n.\r\nNOOP\r\n" +
		"MAIL FROM:<>\r\nRCPT TO:<e@f>\r\nDATA\r\nx\ry\r\n.\r\nDATA\r\n" +
		"MAIL FROM:<>\r\nRCPT TO:<e@f>\r\nDATA\r\n.\r\n" +
		strings.Repeat("z", 513) + "\r\n\r\nVRFY x\r\nQUIT\r\nNOOP\r\n.\r\n"
	events := says("220 mx.test\r\n", order, line, offer, ok, ok, ok, goOn)
	events = append(events, keep("Ann@b.test", "hi\n.\n\n.x\ny\n", "c@d", "c@d"))
	events = append(events, says(ok, ok, ok, ok, goOn, line, order, ok, ok, goOn)...)
	events = append(events, keep("", "", "e@f"))
	events = append(events, says(many, line, line, vrfy, bye)...)
	return stream, append(events, shut())
}

// TestParts hands the same bytes in, in many ways, with events taken at many
// times: they are the same, in the same order.
func TestParts(t *testing.T) {
	stream, events := dialogue()
	for cut := 1; cut <= len(stream); cut++ {
		for _, taken := range []bool{true, false} {
			s := serve.New(host, size)
			var got []api.Event
			codes := []int{250, 452}
			take := func() {
				for e, there := s.Next(); there; e, there = s.Next() {
					got = append(got, e)
					if e.Kind == api.Keep && !taken {
						wantAnswer(t, s, codes[0], true)
						codes = codes[1:]
					}
				}
			}
			answer := func() {
				if len(codes) > 0 && s.Answer(codes[0]) {
					codes = codes[1:]
				}
			}
			for from := 0; from < len(stream); from += cut {
				feed(s, stream[from:min(from+cut, len(stream))])
				// An answer comes later here than the Keep is told.
				if taken {
					take()
					answer()
				}
			}
			for range 3 {
				take()
				answer()
			}
			if !slices.EqualFunc(got, events, same) {
				t.Fatalf("in parts of %d:%s\nwanted:%s", cut, show(got), show(events))
			}
			wantOver(t, s, true)
		}
	}
}

// TestPartsInTwo cuts at each place, and takes events between.
func TestPartsInTwo(t *testing.T) {
	stream, events := dialogue()
	for cut := range len(stream) + 1 {
		s := serve.New(host, size)
		codes := []int{299, 452}
		var got []api.Event
		for _, part := range []string{stream[:cut], stream[cut:]} {
			feed(s, part)
			for e, there := s.Next(); there; e, there = s.Next() {
				got = append(got, e)
				if e.Kind == api.Keep {
					wantAnswer(t, s, codes[0], true)
					codes = codes[1:]
				}
			}
		}
		if !slices.EqualFunc(got, events, same) {
			t.Fatalf("cut at %d:%s\nwanted:%s", cut, show(got), show(events))
		}
	}
}

func TestNothingIsDoneWhileItWaits(t *testing.T) {
	s := ready(t, size)
	feed(s, "x\r\n.\r\nNOOP\r\nQUIT\r\n")
	want(t, s, keep("a@b", "x\n", "c@d"))
	feed(s, "VRFY x\r\n")
	want(t, s)
	wantOver(t, s, false)
	wantAnswer(t, s, 250, true)
	want(t, s, say(ok), say(ok), say(bye), shut())
}

// TestALineAmidTheWait: what came in parts while it waited is whole later.
func TestALineAmidTheWait(t *testing.T) {
	s := ready(t, size)
	feed(s, ".\r\nNO")
	want(t, s, keep("a@b", "", "c@d"))
	feed(s, "OP\r")
	want(t, s)
	wantAnswer(t, s, 451, true)
	want(t, s, say("451 no\r\n"))
	feed(s, "\n")
	want(t, s, say(ok))
}

func TestNothingIsDoneWhenItIsOver(t *testing.T) {
	for _, lines := range states() {
		s := after(t, lines...)
		feed(s, "QUIT\r\nNOOP\r\nHELO a\r\nQUIT\r\nno")
		want(t, s, say(bye), shut())
		wantOver(t, s, true)
		feed(s, "op\r\nNOOP\r\nEHLO a\r\nMAIL FROM:<>\r\nRCPT TO:<a@b>\r\nDATA\r\n.\r\nQUIT\r\n")
		want(t, s)
		wantAnswer(t, s, 250, false)
		wantOver(t, s, true)
	}
}

// P9.2

func TestLengthOfACommand(t *testing.T) {
	for _, begin := range []string{"NOOP ", "noop \xff", "NOOP \r", "NOOP \n\x00"} {
		fits := begin + strings.Repeat("x", api.MaxCommand-len(begin))
		wantNoChange(t, fits, ok)
		wantNoChange(t, fits+"x", line)
	}
	// Who is too long has no name, and no code of chapter 7.
	for _, begin := range []string{"QUIT", "QUIT ", "RSET ", "HELO ", "HELO -", "MAIL FROM:<>", "RCPT TO:<a@b> ", "VRFY ", "DATA", ".", ""} {
		wantNoChange(t, begin+strings.Repeat("x", api.MaxCommand+1-len(begin)), line)
		wantNoChange(t, begin+strings.Repeat(" ", api.MaxText), line)
		wantNoChange(t, begin+strings.Repeat("\n", 1<<16), line)
	}
	for _, begin := range []string{"HELO ", "MAIL FROM:<a@b", "QUIT ", "DATA "} {
		wantNoChange(t, begin+strings.Repeat("x", api.MaxCommand-len(begin)), form)
	}
	wantNoChange(t, strings.Repeat("x", api.MaxCommand), line)
}

func TestCodesOfChapter7(t *testing.T) {
	for reply, commands := range map[string][]string{
		line:  {"", " ", "X", "NOPE", " NOOP", "NOOP\t", "HELP", "MAILFROM:<a@b>", ".", "..", "\x00", "\xff\xfe", "QUIT\r", "QUIT\n", "NOOP\nQUIT", "\u017fize"},
		form:  {"HELO", "HELO ", "EHLO _", "HELO a b", "DATA ", "DATA x", "RSET ", "RSET x", "QUIT ", "QUIT now", "VRFY", "VRFY ", "MAIL", "MAIL FROM:", "MAIL FROM:a@b", "MAIL FROM: <a@b>", "MAIL TO:<a@b>", "MAIL FROM:<a@b> SIZE=", "MAIL FROM:<a@b> SIZE=1234567890", "MAIL FROM:<a@b> SIZE=1 SIZE=1", "MAIL FROM:<a@b> X SIZE=x", "RCPT", "RCPT TO:", "RCPT TO:<>", "RCPT TO:<a>", "RCPT FROM:<a@b>", "RCPT TO:<> X"},
		other: {"MAIL FROM:<a@b> ", "MAIL FROM:<a@b> X", "MAIL FROM:<a@b> SIZE=1 X", "MAIL FROM:<a@b> SIZE=101 X", "RCPT TO:<a@b> ", "RCPT TO:<a@b> SIZE=1"},
	} {
		for _, command := range commands {
			wantNoChange(t, command, reply)
		}
	}
}

func TestCommandsThatChangeNothing(t *testing.T) {
	for _, command := range []string{"NOOP", "noop", "NOOP ", "NOOP x y"} {
		wantNoChange(t, command, ok)
	}
	for _, command := range []string{"VRFY x", "vrfy a@b", "VRFY  "} {
		wantNoChange(t, command, vrfy)
	}
}

func TestGreetings(t *testing.T) {
	for command, reply := range map[string]string{"HELO c": ok, "helo C.d": ok, "EHLO c": offer, "ehlo MX.other": offer} {
		for _, lines := range states() {
			s := after(t, lines...)
			wantReply(t, s, command, reply)
			wantState(t, s, isGreeted, "")
		}
		// Nothing of the mail that was begun is left in the next one.
		s := after(t, "HELO a", "MAIL FROM:<a@b>", "RCPT TO:<c@d>", command, "MAIL FROM:<>", "RCPT TO:<e@f>", "DATA")
		feed(s, "new\r\n.\r\n")
		want(t, s, keep("", "new\n", "e@f"))
	}
}

// TestOfferIsOneSay: three lines, but one event.
func TestOfferIsOneSay(t *testing.T) {
	s := serve.New("A.b", 8000)
	feed(s, "EHLO c\r\nEHLO d\r\n")
	o := "250-a.b\r\n250-SIZE 8000\r\n250 PIPELINING\r\n"
	want(t, s, says("220 a.b\r\n", o, o)...)
}

func TestRset(t *testing.T) {
	for state, lines := range states() {
		s := after(t, lines...)
		wantReply(t, s, "rset", ok)
		if state == isNew {
			wantState(t, s, isNew, "")
		} else {
			wantState(t, s, isGreeted, "")
		}
	}
	s := after(t, "EHLO a", "MAIL FROM:<a@b>", "RCPT TO:<c@d>", "RSET", "MAIL FROM:<>", "RCPT TO:<e@f>", "DATA")
	feed(s, ".\r\n")
	want(t, s, keep("", "", "e@f"))
}

func TestQuit(t *testing.T) {
	for _, command := range []string{"QUIT", "quit"} {
		for _, lines := range states() {
			s := after(t, lines...)
			feed(s, command+"\r\n")
			wantOver(t, s, false)
			e, there := s.Next()
			if !there || !same(e, say(bye)) {
				t.Errorf("%+v, %v", e, there)
			}
			wantOver(t, s, false)
			feed(s, "NOOP\r\n")
			wantAnswer(t, s, 250, false)
			e, there = s.Next()
			if !there || !same(e, shut()) {
				t.Errorf("%+v, %v", e, there)
			}
			wantOver(t, s, true)
			want(t, s)
			wantOver(t, s, true)
		}
	}
}

func TestMail(t *testing.T) {
	for state, lines := range states() {
		if state == isGreeted {
			continue
		}
		for _, command := range []string{"MAIL FROM:<x@y>", "MAIL FROM:<>", "MAIL FROM:<s@from>", "MAIL FROM:<x@y> SIZE=5", "MAIL FROM:<x@y> SIZE=999999999"} {
			s := after(t, lines...)
			wantReply(t, s, command, order)
			wantUnchanged(t, s, state)
		}
	}
	for _, greeting := range []string{"HELO a", "EHLO a"} {
		for command, from := range map[string]string{
			"MAIL FROM:<Ann.B@Mx.Test>":        "Ann.B@mx.test",
			"mail from:<a@b>":                  "a@b",
			"MAIL FROM:<>":                     "",
			"MAIL FROM:<> SIZE=0":              "",
			"MAIL FROM:<a@b> SIZE=100":         "a@b",
			"MAIL FROM:<a@b> size=000000100":   "a@b",
			"MAIL FROM:<a+b_c@d-e.f> SIZE=099": "a+b_c@d-e.f",
		} {
			s := after(t, greeting)
			wantReply(t, s, command, ok)
			wantState(t, s, hasSender, from)
			s = after(t, greeting, command)
			wantReply(t, s, "MAIL FROM:<a@b>", order)
			wantReply(t, s, "MAIL FROM:<a@b> SIZE=101", order)
			wantState(t, s, hasSender, from)
		}
		for _, command := range []string{"MAIL FROM:<a@b> SIZE=101", "MAIL FROM:<> SIZE=101", "MAIL FROM:<a@b> SIZE=999999999", "MAIL FROM:<a@b> size=000000101"} {
			s := after(t, greeting)
			wantReply(t, s, command, great)
			wantState(t, s, isGreeted, "")
		}
	}
}

func TestRcpt(t *testing.T) {
	for _, state := range []string{isNew, isGreeted} {
		s := after(t, states()[state]...)
		wantReply(t, s, "RCPT TO:<a@b>", order)
		wantUnchanged(t, s, state)
	}
	for _, from := range []string{"<>", "<a@b>"} {
		s := after(t, "HELO a", "MAIL FROM:"+from)
		var rcpts []string
		for i := range api.MaxRcpts {
			// The second is there already, but for its domain's letters.
			box := "R" + strconv.Itoa(i/2*2) + "@to"
			wantReply(t, s, "RCPT TO:<"+strings.Replace(box, "to", []string{"to", "TO"}[i%2], 1)+">", ok)
			rcpts = append(rcpts, box)
		}
		for range 3 {
			wantReply(t, s, "RCPT TO:<more@to>", many)
			wantReply(t, s, "RCPT TO:<R0@to>", many)
		}
		wantState(t, s, hasAllRcpts, strings.Trim(from, "<>"), rcpts...)
	}
	// One who was refused is none of the next mail.
	s := after(t, states()[hasAllRcpts]...)
	wantReply(t, s, "RCPT TO:<more@to>", many)
	wantReply(t, s, "RSET", ok)
	wantReply(t, s, "MAIL FROM:<>", ok)
	wantReply(t, s, "RCPT TO:<c@d>", ok)
	wantState(t, s, hasRcpts, "", "c@d")
}

func TestData(t *testing.T) {
	for _, state := range []string{isNew, isGreeted, hasSender} {
		s := after(t, states()[state]...)
		wantReply(t, s, "DATA", order)
		wantReply(t, s, "data", order)
		wantUnchanged(t, s, state)
	}
	for _, state := range []string{hasRcpts, hasAllRcpts} {
		s := after(t, states()[state]...)
		wantReply(t, s, "Data", goOn)
		// Lines of a body are no commands.
		feed(s, "QUIT\r\nDATA\r\nRSET\r\nHELO a\r\n\r\n.\r\n")
		rcpts := slices.Repeat([]string{"r@to"}, len(states()[state])-2)
		want(t, s, keep("s@from", "QUIT\nDATA\nRSET\nHELO a\n\n", rcpts...))
	}
}

// P9.3

func TestBodies(t *testing.T) {
	for stream, body := range map[string]string{
		"":                               "",
		"\r\n":                           "\n",
		"\r\n\r\n":                       "\n\n",
		"a\r\n":                          "a\n",
		"a\r\nb\r\n":                     "a\nb\n",
		"..\r\n":                         ".\n",
		"...\r\n":                        "..\n",
		"..a\r\n":                        ".a\n",
		".a\r\n":                         "a\n",
		"a.\r\n":                         "a.\n",
		" .\r\n. \r\n":                   " .\n \n",
		"..\r\n..\r\n\r\n":               ".\n.\n\n",
		"\x00\xff\t\x80\r\n":             "\x00\xff\t\x80\n",
		"h\u00e9\u2028\u0085\r\n":        "h\u00e9\u2028\u0085\n",
		strings.Repeat("\r\n", size):     strings.Repeat("\n", size),
		strings.Repeat("a\r\n", 50):      strings.Repeat("a\n", 50),
		strings.Repeat("..\r\n", 50):     strings.Repeat(".\n", 50),
		strings.Repeat("a", 99) + "\r\n": strings.Repeat("a", 99) + "\n",
	} {
		s := ready(t, size)
		feed(s, stream)
		want(t, s)
		feed(s, ".\r\n")
		want(t, s, keep("a@b", body, "c@d"))
	}
}

// wantWrong asks for a wrong body's reply, that it comes at the body's end
// alone, and that the session is reset behind.
func wantWrong(t *testing.T, most int, body, reply string) {
	t.Helper()
	s := ready(t, most)
	feed(s, body)
	want(t, s)
	wantAnswer(t, s, 250, false)
	feed(s, ".\r\n")
	want(t, s, say(reply))
	wantAnswer(t, s, 250, false)
	wantReply(t, s, "RCPT TO:<e@f>", order)
	wantReply(t, s, "DATA", order)
	// What was wrong is so no more in the next body.
	feed(s, "MAIL FROM:<>\r\nRCPT TO:<e@f>\r\nDATA\r\n.\r\n")
	want(t, s, append(says(ok, ok, goOn), keep("", "", "e@f"))...)
	wantAnswer(t, s, 200, true)
	want(t, s, say(ok))
	wantState(t, s, isGreeted, "")
}

func wantKept(t *testing.T, most int, stream, body string) {
	t.Helper()
	s := ready(t, most)
	feed(s, stream+".\r\n")
	want(t, s, keep("a@b", body, "c@d"))
}

func TestLengthOfABodysLine(t *testing.T) {
	longest := strings.Repeat("x", api.MaxText)
	wantKept(t, api.MaxBody, longest+"\r\n", longest+"\n")
	wantWrong(t, api.MaxBody, longest+"x\r\n", line)
	wantWrong(t, api.MaxBody, "a\r\n"+longest+"x\r\nb\r\n", line)
	wantWrong(t, api.MaxBody, strings.Repeat("x", 1<<16)+"\r\n", line)

	// Its point counts.
	wantKept(t, api.MaxBody, "."+longest[1:]+"\r\n", longest[1:]+"\n")
	wantKept(t, api.MaxBody, ".."+longest[2:]+"\r\n", "."+longest[2:]+"\n")
	wantWrong(t, api.MaxBody, "."+longest+"\r\n", line)
	wantWrong(t, api.MaxBody, ".."+longest[1:]+"\r\n", line)
	wantWrong(t, api.MaxBody, strings.Repeat(".", api.MaxText+1)+"\r\n", line)
	wantKept(t, api.MaxBody, strings.Repeat(".", api.MaxText)+"\r\n", strings.Repeat(".", api.MaxText-1)+"\n")

	// A command's length is of no weight here, and a body's none behind it.
	wantKept(t, api.MaxBody, strings.Repeat("x", api.MaxCommand+1)+"\r\n", strings.Repeat("x", api.MaxCommand+1)+"\n")
	s := ready(t, size)
	feed(s, "x\r\n.\r\nNOOP "+strings.Repeat("x", api.MaxCommand-4)+"\r\n")
	want(t, s, keep("a@b", "x\n", "c@d"))
	wantAnswer(t, s, 250, true)
	want(t, s, say(ok), say(line))
}

func TestBytesOfLinesEndsInATextAreWrong(t *testing.T) {
	for _, text := range []string{"\r", "\n", "a\rb", "a\nb", "a\r", "a\n", "\ra", "\na", "\n\r", "\n.", ".\n", "\n.\n", ".\r", "..\r", "\r\r", "a\n.\nb"} {
		wantWrong(t, size, text+"\r\n", line)
		wantWrong(t, size, "x\r\n"+text+"\r\ny\r\n", line)
	}
	// Of all bytes these two alone.
	for b := range 256 {
		text := "x" + string([]byte{byte(b)}) + "y"
		if b == 10 || b == 13 {
			wantWrong(t, size, text+"\r\n", line)
		} else {
			wantKept(t, size, text+"\r\n", text+"\n")
		}
	}
}

func TestLengthOfABody(t *testing.T) {
	for _, most := range []int{1, 2, 3, 9, 10, 499, 500, 501, 1000, 1001, 1002, 4000, api.MaxBody} {
		stream := strings.ReplaceAll(bodyOf(most), "\n", "\r\n")
		wantKept(t, most, stream, bodyOf(most))
		wantKept(t, most, strings.Repeat("\r\n", most), strings.Repeat("\n", most))
		wantKept(t, most, strings.ReplaceAll(bodyOf(most-1), "\n", "\r\n"), bodyOf(most-1))
		wantWrong(t, most, stream+"\r\n", great)
		wantWrong(t, most, strings.Repeat("\r\n", most+1), great)
		wantWrong(t, most, strings.ReplaceAll(bodyOf(most+1), "\n", "\r\n"), great)
		wantWrong(t, most, "\r\n"+stream, great)
		wantWrong(t, most, strings.Repeat(stream, 9), great)
	}
	// The byte behind a text counts, its point does not.
	wantKept(t, 3, "ab\r\n", "ab\n")
	wantWrong(t, 3, "abc\r\n", great)
	wantKept(t, 3, "..a\r\n", ".a\n")
	wantWrong(t, 3, "..ab\r\n", great)
	wantKept(t, 2, "..\r\n", ".\n")
	wantWrong(t, 1, "..\r\n", great)
	wantKept(t, 1, "\r\n", "\n")
	wantWrong(t, 1, "a\r\n", great)
}

func TestWhatWasWrongFirst(t *testing.T) {
	long := strings.Repeat("x", api.MaxText+1) + "\r\n"
	much := strings.Repeat("x", size) + "\r\n"
	for _, bad := range []string{long, "a\nb\r\n", "a\rb\r\n"} {
		wantWrong(t, size, bad+much, line)
		wantWrong(t, size, "a\r\n"+bad+"b\r\n"+much+bad, line)
		wantWrong(t, size, much+bad, great)
		wantWrong(t, size, "a\r\n"+much+"b\r\n"+bad+much, great)
	}
	// Of one line 500 first.
	wantWrong(t, size, long, line)
	wantWrong(t, size, strings.Repeat("x", size)+"\n\r\n", line)
	wantWrong(t, size, "\r"+strings.Repeat("x", size)+"\r\n", line)
	wantWrong(t, 1, "\n\r\n", line)
	wantWrong(t, 1, "..\r\r\n", line)
	// A text that is too much is, also if a later one would have room.
	wantWrong(t, size, much+"a\r\n", great)
	wantWrong(t, size, strings.Repeat("a\r\n", 50)+"\r\n\r\n", great)
	// One that is wrong is no part of the body; what is behind it is still 500.
	wantWrong(t, 2, "\n\r\nabcdef\r\n", line)
}

// TestWrongBodysEnd: the end is found behind what was wrong, and no line that
// only looks like it is one.
func TestWrongBodysEnd(t *testing.T) {
	long := strings.Repeat("x", api.MaxText+1)
	for _, bad := range []string{long, "a\nb", strings.Repeat("y", size)} {
		s := ready(t, size)
		feed(s, bad+"\r\n..\r\n. \r\n\n.\r\nQUIT\r\n.\r")
		want(t, s)
		feed(s, "\r\n")
		want(t, s)
		feed(s, ".\r\nNOOP\r\n")
		code := line
		if bad[0] == 'y' {
			code = great
		}
		want(t, s, says(code, ok)...)
	}
}

func TestKeep(t *testing.T) {
	s := newSession(t)
	feed(s, "EHLO a\r\nMAIL FROM:<Ann.B@Mx.Test> SIZE=7\r\nRCPT TO:<Z@Z>\r\nRCPT TO:<a@b>\r\nRCPT TO:<Z@Z>\r\nRCPT TO:<z@Z>\r\nDATA\r\nSubject: x\r\n\r\n..\r\n.\r\n")
	want(t, s, append(says(offer, ok, ok, ok, ok, ok, goOn), keep("Ann.B@mx.test", "Subject: x\n\n.\n", "Z@z", "a@b", "Z@z", "z@z"))...)
	wantAnswer(t, s, 250, true)
	// The next mail has nothing of it, and needs no new greeting.
	feed(s, "MAIL FROM:<>\r\nRCPT TO:<c@d>\r\nDATA\r\n.\r\n")
	want(t, s, append(says(ok, ok, ok, goOn), keep("", "", "c@d"))...)
	wantAnswer(t, s, 554, true)
	want(t, s, say("554 no\r\n"))
	wantState(t, s, isGreeted, "")
}

func TestAnswers(t *testing.T) {
	for code, reply := range map[int]string{
		200: ok, 201: ok, 220: ok, 221: ok, 249: ok, 250: ok, 251: ok, 252: ok, 299: ok,
		300: "300 no\r\n", 301: "301 no\r\n", 353: "353 no\r\n", 354: goOn, 355: "355 no\r\n", 421: "421 no\r\n",
		451: "451 no\r\n", 452: many, 500: line, 550: "550 no\r\n", 598: "598 no\r\n", 599: "599 no\r\n",
	} {
		s := ready(t, size)
		feed(s, "x\r\n.\r\n")
		want(t, s, keep("a@b", "x\n", "c@d"))
		wantAnswer(t, s, code, true)
		wantAnswer(t, s, code, false)
		wantAnswer(t, s, 250, false)
		want(t, s, say(reply))
		wantAnswer(t, s, code, false)
		want(t, s)
		wantState(t, s, isGreeted, "")
	}
}

func TestAnswersThatAreNone(t *testing.T) {
	s := ready(t, size)
	feed(s, ".\r\nNOOP\r\n")
	want(t, s, keep("a@b", "", "c@d"))
	for _, code := range []int{199, 600, 0, 1, -1, -250, 100, 601, 2500, math.MinInt, math.MaxInt, 1<<32 + 250} {
		wantAnswer(t, s, code, false)
		want(t, s)
	}
	wantAnswer(t, s, 599, true)
	want(t, s, says("599 no\r\n", ok)...)
}

// TestAnswerAtAnyTime: where nothing is asked, or the Keep was not told yet, an
// answer is false, and changes nothing.
func TestAnswerAtAnyTime(t *testing.T) {
	for state, lines := range states() {
		s := after(t, lines...)
		wantAnswer(t, s, 250, false)
		wantAnswer(t, s, 452, false)
		want(t, s)
		wantUnchanged(t, s, state)
	}
	s := serve.New(host, size)
	wantAnswer(t, s, 250, false)
	feed(s, "HELO a\r\nMAIL FROM:<a@b>\r\nRCPT TO:<c@d>\r\nDATA\r\nx\r\n.\r\nNOOP\r\n")
	for _, e := range append(says("220 mx.test\r\n", ok, ok, ok, goOn), keep("a@b", "x\n", "c@d")) {
		wantAnswer(t, s, 250, false)
		got, there := s.Next()
		if !there || !same(got, e) {
			t.Errorf("told:%s\nwanted:%s", show([]api.Event{got}), show([]api.Event{e}))
		}
	}
	wantAnswer(t, s, 250, true)
	// The next mail's end is here, but its Keep is not told yet.
	feed(s, "MAIL FROM:<>\r\nRCPT TO:<c@d>\r\nDATA\r\n.\r\n")
	for _, e := range append(says(ok, ok, ok, ok, goOn), keep("", "", "c@d")) {
		wantAnswer(t, s, 452, false)
		got, there := s.Next()
		if !there || !same(got, e) {
			t.Errorf("told:%s\nwanted:%s", show([]api.Event{got}), show([]api.Event{e}))
		}
	}
	want(t, s)
	wantAnswer(t, s, 452, true)
	want(t, s, say(many))
}

func TestAnswerAmidABody(t *testing.T) {
	s := ready(t, size)
	feed(s, "x\r\n")
	wantAnswer(t, s, 250, false)
	want(t, s)
	wantAnswer(t, s, 250, false)
	feed(s, ".\r\n")
	wantAnswer(t, s, 250, false)
	want(t, s, keep("a@b", "x\n", "c@d"))
	wantAnswer(t, s, 250, true)
}

func TestOver(t *testing.T) {
	s := serve.New(host, size)
	wantOver(t, s, false)
	feed(s, "HELO a\r\nMAIL FROM:<>\r\nRCPT TO:<c@d>\r\nDATA\r\n.\r\nQUIT\r\n")
	wantOver(t, s, false)
	for {
		e, there := s.Next()
		wantOver(t, s, e.Kind == api.Shut)
		if e.Kind == api.Keep {
			wantAnswer(t, s, 250, true)
		}
		if !there || e.Kind == api.Shut {
			break
		}
	}
	for range 3 {
		wantOver(t, s, true)
		want(t, s)
		feed(s, "NOOP\r\n")
	}
}

func TestNil(t *testing.T) {
	var s *serve.Session
	for range 2 {
		s.Feed(nil)
		feed(s, "", "NOOP\r\n", "QUIT\r\n")
		want(t, s)
		for _, code := range []int{0, 199, 200, 250, 599, 600, math.MinInt, math.MaxInt} {
			wantAnswer(t, s, code, false)
		}
		wantOver(t, s, false)
	}
}

// TestNotByNew: one that New did not make is no object (R7), but no call of it
// panics (R1).
func TestNotByNew(t *testing.T) {
	s := new(serve.Session)
	feed(s, "EHLO a\r\nMAIL FROM:<>\r\nRCPT TO:<c@d>\r\nDATA\r\n\r\n.\r\nQUIT\r\n")
	s.Next()
	s.Answer(250)
	s.Over()
	s.Feed(nil)
}

// R4

// TestFedMayChange: who fed a list may write into it, and it is itself not
// changed, its spare room included.
func TestFedMayChange(t *testing.T) {
	stream, events := dialogue()
	whole := []byte(stream + "SPARE\r\nQUIT\r\n")
	was := string(whole)
	s := serve.New(host, size)
	s.Feed(whole[:3])
	s.Feed(whole[3:40])
	s.Feed(whole[40:len(stream)])
	for i := range whole {
		whole[i] = '\n'
	}
	codes := []int{250, 452}
	var got []api.Event
	for e, there := s.Next(); there; e, there = s.Next() {
		got = append(got, e)
		if e.Kind == api.Keep {
			wantAnswer(t, s, codes[0], true)
			codes = codes[1:]
		}
	}
	if !slices.EqualFunc(got, events, same) {
		t.Errorf("told:%s\nwanted:%s", show(got), show(events))
	}
	if string(whole) != strings.Repeat("\n", len(was)) {
		t.Errorf("what was fed is now %q", whole)
	}

	one := make([]byte, 1, 8)
	s = serve.New(host, size)
	for i := range len("NOOP\r\n") {
		one[0] = "NOOP\r\n"[i]
		s.Feed(one)
		feed(s, "")
	}
	want(t, s, says("220 mx.test\r\n", ok)...)
	if !bytes.Equal(one[:8], []byte{'\n', 0, 0, 0, 0, 0, 0, 0}) {
		t.Errorf("what was fed is now %v", one[:8])
	}
}

// scribble writes over all of a mail's lists, their spare room included.
func scribble(m api.Mail) {
	for i := range m.Rcpts[:cap(m.Rcpts)] {
		m.Rcpts[:cap(m.Rcpts)][i] = "scribble"
	}
	for i := range m.Body[:cap(m.Body)] {
		m.Body[:cap(m.Body)][i] = '#'
	}
}

// TestKeptMayChange: who was told a mail may write into it, and what comes
// later does not change it.
func TestKeptMayChange(t *testing.T) {
	mails := []api.Event{
		keep("a@b", "one\ntwo\n", "c@d", "e@f", "c@d"),
		keep("", "three\n", "g@h", "i@j"),
		keep("k@l", strings.Repeat("4", 99)+"\n", "m@n"),
		keep("o@p", "", "q@r", "s@t", "u@v", "w@x"),
	}
	run := func(taken func(api.Mail)) {
		s := newSession(t)
		feed(s, "HELO a\r\n")
		want(t, s, say(ok))
		for _, e := range mails {
			feed(s, "MAIL FROM:<"+e.Mail.From+">\r\n")
			for _, box := range e.Mail.Rcpts {
				feed(s, "RCPT TO:<"+box+">\r\n")
			}
			feed(s, "DATA\r\n", strings.ReplaceAll(string(e.Mail.Body), "\n", "\r\n"), ".\r\n")
			got := all(t, s)
			last := got[len(got)-1]
			if !same(last, e) {
				t.Errorf("told:%s\nwanted:%s", show([]api.Event{last}), show([]api.Event{e}))
			}
			taken(last.Mail)
			wantAnswer(t, s, 250, true)
			want(t, s, say(ok))
		}
	}
	run(scribble)

	var got []api.Event
	run(func(m api.Mail) { got = append(got, api.Event{Kind: api.Keep, Mail: m}) })
	if !slices.EqualFunc(got, mails, same) {
		t.Errorf("told:%s\nwanted:%s", show(got), show(mails))
	}
	for i := range got {
		scribble(got[i].Mail)
		if !slices.EqualFunc(got[i+1:], mails[i+1:], same) {
			t.Errorf("behind a change of mail %d:%s\nwanted:%s", i, show(got[i+1:]), show(mails[i+1:]))
		}
	}
}

// TestHostIsNotKept: a session has its own memory of its host's name.
func TestHostIsNotKept(t *testing.T) {
	for _, name := range []string{"mx.test", "MX.Test"} {
		b := []byte(name)
		given := unsafe.String(&b[0], len(b))
		s := serve.New(given, size)
		copy(b, "zzzzzzz")
		want(t, s, say("220 mx.test\r\n"))
		wantReply(t, s, "EHLO a", offer)
	}
}

func TestSessionsAreApart(t *testing.T) {
	a, b := newSession(t), serve.New("b", 3)
	feed(a, "HELO a\r\nMAIL FROM:<a@b>\r\nRCPT")
	feed(b, " TO:<c@d>\r\n")
	want(t, b, says("220 b\r\n", line)...)
	want(t, a, says(ok, ok)...)
	feed(b, "QUIT\r\n")
	want(t, b, say(bye), shut())
	feed(a, " TO:<c@d>\r\n")
	want(t, a, say(ok))
	wantOver(t, a, false)
	wantOver(t, b, true)
	wantState(t, a, hasRcpts, "a@b", "c@d")
}
