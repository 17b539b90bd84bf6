package verb_test

import (
	"regexp"
	"strconv"
	"strings"
	"testing"
	"unsafe"

	"pillarbox/addr"
	"pillarbox/api"
	"pillarbox/verb"
)

// names are those that a command may have (P7.1).
var names = []string{"HELO", "EHLO", "MAIL", "RCPT", "DATA", "RSET", "NOOP", "QUIT", "VRFY"}

// good asks that s is a command.
func good(t *testing.T, s, name, arg string, size int) {
	t.Helper()
	want := api.Verb{Name: name, Arg: arg, Size: size}
	if got, code := verb.Parse(s); got != want || code != 0 {
		t.Errorf("Parse(%q): %+v %d, not %+v", s, got, code, want)
	}
}

// bad asks that s is none, and that beside the code there is nothing (R3).
func bad(t *testing.T, want int, texts ...string) {
	t.Helper()
	for _, s := range texts {
		if got, code := verb.Parse(s); got != (api.Verb{}) || code != want {
			t.Errorf("Parse(%q): %+v %d, not %d", s, got, code, want)
		}
	}
}

// cases answers word in all cases of its letters.
func cases(word string) []string {
	out := []string{""}
	for _, c := range word {
		var next []string
		for _, s := range out {
			next = append(next, s+strings.ToUpper(string(c)))
			if small := strings.ToLower(string(c)); small != strings.ToUpper(string(c)) {
				next = append(next, s+small)
			}
		}
		out = next
	}
	return out
}

// rests has for each name one that is well behind it, its blank included, and
// the argument that is found there.
func rests() map[string][2]string {
	return map[string][2]string{
		"HELO": {" A.b", "a.b"}, "EHLO": {" A.b", "a.b"},
		"MAIL": {" FROM:<A@B>", "A@b"}, "RCPT": {" TO:<A@B>", "A@b"},
		"DATA": {}, "RSET": {}, "QUIT": {}, "NOOP": {" x"}, "VRFY": {" x"},
	}
}

func TestTheExample(t *testing.T) {
	good(t, "mail from:<A@B.c> size=5", "MAIL", "A@b.c", 5)
}

func TestNamesInAnyCase(t *testing.T) {
	for _, name := range names {
		for _, written := range cases(name) {
			rest := rests()[name]
			good(t, written+rest[0], name, rest[1], -1)
		}
	}
}

func TestNamesThatAreNone(t *testing.T) {
	none := []string{"", "X", "HELP", "EXPN", "TURN", "STARTTLS", "AUTH", "\x00", "\xff", "MAIL\t", "MAILFROM:<a@b>"}
	for _, name := range names {
		for i := range name {
			none = append(none, name[:i], name[i+1:], name[:i]+name[i+1:], name[:i]+"X"+name[i:], name[:i]+"\xff"+name[i+1:])
		}
		none = append(none, name+"X", name+name, name+"\x00", name+"\t", name+"\r", name+"\r\n", name+":", name+"\u00a0", "\t"+name, "\x00"+name)
		none = append(none, strings.Repeat(name, 1000))
		for _, letters := range [][2]string{{"I", "\u0131"}, {"S", "\u017f"}, {"M", "\uff2d"}, {"m", "\uff4d"}, {"H", "\u0397"}, {"A", "\u0430"}} {
			if strings.Contains(name, letters[0]) {
				none = append(none, strings.ReplaceAll(name, letters[0], letters[1]))
				none = append(none, strings.ToLower(strings.ReplaceAll(name, letters[0], letters[1])))
			}
		}
	}
	for _, name := range none {
		if name != "" {
			bad(t, 500, " "+name, "  "+name)
		}
		for _, rest := range []string{"", " ", "  ", " x", " a.b", " FROM:<a@b>", " FROM:<a@b> SIZE=5", " TO:<a@b>", " TO:<a@b> X", " \xff"} {
			bad(t, 500, name+rest)
		}
	}
	for _, name := range names {
		for _, rest := range rests() {
			bad(t, 500, " "+name+rest[0], "  "+name+rest[0])
		}
	}
}

// TestEachByteOfNames has each byte in each place of each name.
func TestEachByteOfNames(t *testing.T) {
	for _, name := range names {
		for i := range name {
			for b := range 256 {
				c := string([]byte{byte(b)})
				s := name[:i] + c + name[i+1:] + rests()[name][0]
				if c == name[i:i+1] || c == strings.ToLower(name[i:i+1]) {
					good(t, s, name, rests()[name][1], -1)
				} else {
					bad(t, 500, s)
				}
			}
		}
	}
}

func TestHello(t *testing.T) {
	part := strings.Repeat("a", 31)
	long := part + "." + strings.Repeat("B", 32)
	for _, name := range []string{"HELO", "EHLO"} {
		good(t, name+" a", name, "a", -1)
		good(t, name+" MX.Test-1", name, "mx.test-1", -1)
		good(t, name+" "+long, name, strings.ToLower(long), -1)
		good(t, name+" ABCDEFGHIJKLMNOPQRSTUVWXYZ.09", name, "abcdefghijklmnopqrstuvwxyz.09", -1)
		bad(t, 501, name, name+" ", name+"  ", name+"  a", name+" a ", name+" a b", name+" a_b", name+" -a", name+" a..b", name+" .",
			name+" a\t", name+" a\r\n", name+" \xff", name+" \u212a", name+" a@b", name+" <a.b>", name+" [1.2.3.4]",
			name+" "+part+"aa", name+" "+part+".b."+part, name+" "+long+".c", name+" "+strings.Repeat("a.", 1<<16)+"a")
	}
}

func TestNamesAlone(t *testing.T) {
	for _, name := range []string{"DATA", "RSET", "QUIT"} {
		good(t, name, name, "", -1)
		bad(t, 501, name+" ", name+"  ", name+" x", name+" a.b", name+" "+name, name+" <>", name+" \x00", name+" \xff")
	}
}

func TestNoopAndVrfy(t *testing.T) {
	for _, rest := range []string{"", " ", "  ", " x", " x y", " A@b", " SIZE=5", " \x00", " \xff", " " + strings.Repeat("x", 1<<16)} {
		good(t, "NOOP"+rest, "NOOP", "", -1)
		if rest == "" || rest == " " {
			bad(t, 501, "VRFY"+rest)
		} else {
			good(t, "VRFY"+rest, "VRFY", "", -1)
		}
	}
}

func TestKeysInAnyCase(t *testing.T) {
	for _, key := range cases("FROM:") {
		good(t, "MAIL "+key+"<A@B>", "MAIL", "A@b", -1)
		good(t, "MAIL "+key+"<>", "MAIL", "", -1)
		bad(t, 501, "RCPT "+key+"<a@b>", "RCPT "+key+"<>")
	}
	for _, key := range cases("TO:") {
		good(t, "RCPT "+key+"<A@B>", "RCPT", "A@b", -1)
		bad(t, 501, "MAIL "+key+"<a@b>", "MAIL "+key+"<>")
	}
	for _, key := range cases("SIZE=") {
		good(t, "MAIL FROM:<A@B> "+key+"70", "MAIL", "A@b", 70)
		bad(t, 501, "MAIL FROM:<a@b> "+key, "MAIL FROM:<a@b> SIZE=1 "+key+"1", "MAIL FROM:<a@b> "+key+"1 SIZE=1")
		bad(t, 555, "RCPT TO:<a@b> "+key+"1", "RCPT TO:<a@b> "+key)
	}
}

func TestPaths(t *testing.T) {
	long := strings.Repeat("Q", 32) + "@" + strings.Repeat("b", 31)
	for command, key := range map[string]string{"MAIL": "FROM:", "RCPT": "TO:"} {
		good(t, command+" "+key+"<Ann.B@Mx.Test>", command, "Ann.B@mx.test", -1)
		good(t, command+" "+key+"<"+long+">", command, long, -1)
		bad(t, 501, command, command+" ", command+"  ", command+" x", command+" "+key, command+" "+key+" ", command+" "+key+" <a@b>",
			command+"  "+key+"<a@b>", command+" "+key[1:]+"<a@b>", command+" X"+key+"<a@b>", command+" "+key[:len(key)-1],
			command+" "+key[:len(key)-1]+"<a@b>", command+" "+key[:len(key)-1]+" :<a@b>", command+" "+key+":<a@b>", command+" <a@b>", command+" <>")
		for _, path := range []string{
			"a@b", "<a@b", "a@b>", "<a>", "<@>", "<a@>", "<@b>", "<a@b@c>", "<<a@b>>", "<a@b>>", "<a@b>x", "<a@b>\t", "<a@b>\r\n", "<a@b>SIZE=1",
			"<a_@b_>", "<\xff@b>", "<a@\u212a>", "<>>", "<<>>", "<", ">", "><", "\t<a@b>", "<" + long + "b>",
		} {
			bad(t, 501, command+" "+key+path)
		}
		// A blank ends the path, wherever it stands.
		bad(t, 501, command+" "+key+"< >", command+" "+key+"<a @b>", command+" "+key+"<a@b >", command+" "+key+"\"a b\"@c")
	}
	good(t, "MAIL FROM:<>", "MAIL", "", -1)
	good(t, "MAIL FROM:<> SIZE=3", "MAIL", "", 3)
	bad(t, 501, "RCPT TO:<>", "rcpt to:<>")
}

func TestEachByteOfKeys(t *testing.T) {
	for b := range 256 {
		c := string([]byte{byte(b)})
		for i := range "FROM:" {
			s := "MAIL " + "FROM:"[:i] + c + "FROM:"[i+1:] + "<a@b>"
			if strings.ToUpper(c) == "FROM:"[i:i+1] {
				good(t, s, "MAIL", "a@b", -1)
			} else {
				bad(t, 501, s)
			}
		}
		for i := range "TO:" {
			s := "RCPT " + "TO:"[:i] + c + "TO:"[i+1:] + "<a@b>"
			if strings.ToUpper(c) == "TO:"[i:i+1] {
				good(t, s, "RCPT", "a@b", -1)
			} else {
				bad(t, 501, s)
			}
		}
		for i := range "SIZE=" {
			s := "MAIL FROM:<a@b> " + "SIZE="[:i] + c + "SIZE="[i+1:] + "1"
			if strings.ToUpper(c) == "SIZE="[i:i+1] {
				good(t, s, "MAIL", "a@b", 1)
			} else {
				bad(t, 555, s)
			}
		}
	}
}

func TestSizes(t *testing.T) {
	for digits, want := range map[string]int{
		"0": 0, "1": 1, "9": 9, "00": 0, "007": 7, "000000000": 0, "000000001": 1, "08": 8, "010": 10,
		"12": 12, "12345678": 12345678, "123456789": 123456789, "999999999": 999999999, "100000000": 100000000,
	} {
		good(t, "MAIL FROM:<a@b> SIZE="+digits, "MAIL", "a@b", want)
		good(t, "MAIL FROM:<> size="+digits, "MAIL", "", want)
	}
	for _, digits := range []string{
		"", "1234567890", "0000000001", "0000000000", "1000000000", "9999999999", strings.Repeat("0", 100), strings.Repeat("9", 1<<16),
		"+1", "-1", "-0", "+", "-", "1+", "0x1", "0b1", "1_0", "1e3", "1.0", "1,0", "a", "1a", "a1", "1\t", "\t1", "1\x00", "\xff", "1\xff",
		"=1", "1=", "SIZE=1", "\u0661", "\uff11", "1\r\n", "<1>", "12345678a", "12345678\u0661",
	} {
		bad(t, 501, "MAIL FROM:<a@b> SIZE="+digits, "MAIL FROM:<a@b> SIZE=1 SIZE="+digits, "MAIL FROM:<a@b> SIZE="+digits+" SIZE=1")
		bad(t, 555, "RCPT TO:<a@b> SIZE="+digits)
	}
}

func TestEachByteOfSizes(t *testing.T) {
	for b := range 256 {
		c := string([]byte{byte(b)})
		for _, digits := range []string{c, c + "1", "1" + c, "1" + c + "1", "1234567" + c} {
			n, err := strconv.Atoi(digits)
			if err == nil && b >= '0' && b <= '9' {
				good(t, "MAIL FROM:<a@b> SIZE="+digits, "MAIL", "a@b", n)
			} else if c != " " {
				bad(t, 501, "MAIL FROM:<a@b> SIZE="+digits)
			}
		}
	}
}

func TestASecondSize(t *testing.T) {
	for _, options := range []string{"SIZE=1 SIZE=1", "SIZE=1 SIZE=2", "SIZE=0 SIZE=0", "size=1 Size=1", "SIZE=1 SIZE=", "SIZE= SIZE=1", "SIZE=1 SIZE=1 SIZE=1"} {
		bad(t, 501, "MAIL FROM:<a@b> "+options, "MAIL FROM:<> "+options)
	}
}

func TestOtherOptions(t *testing.T) {
	for _, option := range []string{
		"", "X", "SIZE", "SIZE:1", "SIZ=1", "SIZEE=1", "XSIZE=1", "=1", "1", "=", "BODY=8BITMIME", "\u017fIZE=1", "S\u0131ZE=1", "\tSIZE=1", "\x00", "\xff", "<a@b>",
	} {
		bad(t, 555, "MAIL FROM:<a@b> "+option, "MAIL FROM:<> "+option, "RCPT TO:<a@b> "+option, "RCPT TO:<a@b> X "+option)
		bad(t, 555, "MAIL FROM:<a@b> SIZE=1 "+option, "MAIL FROM:<a@b> "+option+" SIZE=1", "MAIL FROM:<a@b> "+option+" SIZE=1 "+option, "MAIL FROM:<a@b> "+option+" "+option)
	}
	// Empty ones: two blanks, and a blank at the end.
	bad(t, 555, "MAIL FROM:<a@b> ", "MAIL FROM:<a@b>  ", "MAIL FROM:<a@b>  SIZE=1", "MAIL FROM:<a@b> SIZE=1 ", "MAIL FROM:<a@b>   SIZE=1  ")
	bad(t, 555, "RCPT TO:<a@b> ", "RCPT TO:<a@b>  ", "RCPT TO:<a@b>  X")
}

// TestFormGoesFirst: 501 and 555 in one command, either way round.
func TestFormGoesFirst(t *testing.T) {
	for _, wrong := range []string{"SIZE=", "SIZE=x", "SIZE=1234567890", "SIZE=1 SIZE=1"} {
		for _, other := range []string{"", "X", "SIZE", "X Y"} {
			bad(t, 501, "MAIL FROM:<a@b> "+wrong+" "+other, "MAIL FROM:<a@b> "+other+" "+wrong)
			bad(t, 555, "RCPT TO:<a@b> "+wrong+" "+other, "RCPT TO:<a@b> "+other+" "+wrong)
		}
	}
	bad(t, 501, "MAIL FROM:<a@b> SIZE=1 X SIZE=1", "MAIL FROM:<a@b> X SIZE=1 Y SIZE=2 Z")
	for _, option := range []string{"", "X", "SIZE=1", "SIZE="} {
		bad(t, 501, "MAIL FROM:<a> "+option, "MAIL TO:<a@b> "+option, "MAIL FROM: "+option, "MAIL x "+option)
		bad(t, 501, "RCPT TO:<a> "+option, "RCPT FROM:<a@b> "+option, "RCPT TO: "+option, "RCPT TO:<> "+option)
	}
}

// fold is a pattern of word in any case of ASCII's letters.
func fold(word string) string {
	var out strings.Builder
	for _, c := range word {
		out.WriteString("[" + strings.ToUpper(string(c)) + strings.ToLower(string(c)) + "]")
	}
	return out.String()
}

// model answers what Parse ought to, by patterns of whole commands.
func model() func(s string) (api.Verb, int) {
	known := map[string]*regexp.Regexp{}
	for _, name := range names {
		known[name] = regexp.MustCompile(`(?s)\A` + fold(name) + `( .*)?\z`)
	}
	mail := regexp.MustCompile(`(?s)\A ` + fold("FROM:") + `([^ ]*)( .*)?\z`)
	rcpt := regexp.MustCompile(`(?s)\A ` + fold("TO:") + `([^ ]*)( .*)?\z`)
	size := regexp.MustCompile(` ` + fold("SIZE") + `=([^ ]*)`)
	digits := regexp.MustCompile(`\A[0-9]{1,9}\z`)
	options := func(text string) (int, int) {
		sizes := size.FindAllStringSubmatch(text, -1)
		for _, found := range sizes {
			if len(sizes) > 1 || !digits.MatchString(found[1]) {
				return 0, 501
			}
		}
		if size.ReplaceAllString(text, "") != "" {
			return 0, 555
		}
		if len(sizes) == 0 {
			return -1, 0
		}
		n, _ := strconv.Atoi(sizes[0][1])
		return n, 0
	}
	parts := func(name, rest string) (arg string, size, code int) {
		switch name {
		case "HELO", "EHLO":
			if rest == "" || !addr.Domain(rest[1:]) {
				return "", 0, 501
			}
			return strings.ToLower(rest[1:]), -1, 0
		case "DATA", "RSET", "QUIT":
			if rest != "" {
				return "", 0, 501
			}
		case "VRFY":
			if len(rest) < 2 {
				return "", 0, 501
			}
		case "MAIL":
			found := mail.FindStringSubmatch(rest)
			if found == nil {
				return "", 0, 501
			}
			box, ok := addr.Path(found[1])
			if !ok {
				return "", 0, 501
			}
			size, code = options(found[2])
			return box, size, code
		case "RCPT":
			found := rcpt.FindStringSubmatch(rest)
			if found == nil {
				return "", 0, 501
			}
			box, _ := addr.Path(found[1])
			if box == "" {
				return "", 0, 501
			}
			if found[2] != "" {
				return "", 0, 555
			}
			return box, -1, 0
		}
		return "", -1, 0
	}
	return func(s string) (api.Verb, int) {
		for _, name := range names {
			if found := known[name].FindStringSubmatch(s); found != nil {
				arg, size, code := parts(name, found[1])
				if code != 0 {
					return api.Verb{}, code
				}
				return api.Verb{Name: name, Arg: arg, Size: size}, 0
			}
		}
		return api.Verb{}, 500
	}
}

// TestManyTexts holds Parse against the model, over all short rows of pieces
// behind some begins.
func TestManyTexts(t *testing.T) {
	want := model()
	pieces := []string{" ", "from:", "TO:", "<a@B>", "<>", "Size=", "size", "7", "12345678", "X", "A.b", "\n"}
	var walk func(s string, left int)
	walk = func(s string, left int) {
		v, code := want(s)
		if got, c := verb.Parse(s); got != v || c != code {
			t.Errorf("Parse(%q): %+v %d, not %+v %d", s, got, c, v, code)
		}
		for _, piece := range pieces {
			if left > 0 {
				walk(s+piece, left-1)
			}
		}
	}
	for _, begin := range []string{"", " ", "helo", "Ehlo", "data", "rset", "noop", "quit", "vrfy", "mail", "rcpt", "MAIL FROM:", "RCPT TO:", "MAIL FROM:<a@b>"} {
		walk(begin, 3)
	}
	walk("MAIL FROM:<a@b> Size=7", 4)
	walk("MAIL FROM:<> X ", 4)
}

// TestNewMemory: what is answered shares no memory with what was handed in (R4).
func TestNewMemory(t *testing.T) {
	for _, s := range []string{"HELO mx.test", "ehlo Mx.Test", "MAIL FROM:<ann@mx.test> SIZE=5", "mail from:<Ann@Mx.Test>", "RCPT TO:<ann@mx.test>", "DATA", "rset", "NOOP x", "VRFY x"} {
		in := strings.Clone(s)
		got, code := verb.Parse(in)
		if code != 0 || overlap(in, got.Name) || overlap(in, got.Arg) {
			t.Errorf("%q: %+v %d shares its memory, or is none", in, got, code)
		}
		if in != s {
			t.Errorf("%q became %q", s, in)
		}
	}
}

func overlap(a, b string) bool {
	x, y := uintptr(unsafe.Pointer(unsafe.StringData(a))), uintptr(unsafe.Pointer(unsafe.StringData(b)))
	return x < y+uintptr(len(b)) && y < x+uintptr(len(a))
}
