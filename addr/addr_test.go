package addr_test

import (
	"regexp"
	"strings"
	"testing"
	"unsafe"

	"pillarbox/addr"
	"pillarbox/api"
)

// domains has texts, and whether they are domains (P5.1).
func domains() map[string]bool {
	a := func(n int) string { return strings.Repeat("a", n) }
	return map[string]bool{
		// Labels of 0, 1, 32 and 33 bytes.
		"": false, "a": true, "Z": true, "0": true, "9": true,
		a(31): true, a(32): true, a(33): false,
		a(32) + ".b": true, a(33) + ".b": false, "b." + a(32): true, "b." + a(33): false,
		"b." + a(32) + ".c": true, "b." + a(33) + ".c": false,
		"mx.test": true, "Mx.Test": true, "a.b.c.d": true, "1.2.3.4": true,

		// - at the begin, in the midst and at the end.
		"-": false, "--": false, "-a": false, "a-": false, "a-b": true, "a--b": true,
		"a.-": false, "-.a": false, "a.-b": false, "a-.b": false, "a.b-": false, "-a.b": false,
		"a.b-c.d": true, "a.-b.c": false, "a.b-.c": false, "a-b.c-d": true,
		a(31) + "-": false, "-" + a(31): false, "a" + strings.Repeat("-", 30) + "a": true,
		"a" + strings.Repeat("-", 31) + "a": false,

		// Points at an end, and two behind one another.
		".": false, "..": false, ".a": false, "a.": false, "a..b": false, "a.b.": false,
		".a.b": false, "a...b": false, "a.b..c": false,

		// Other signs, letters that are not ASCII's, bytes that are no runes.
		"a b": false, " a": false, "a ": false, "a_b": false, "a+b": false, "a@b": false, "@": false,
		"é": false, "aé": false, "ａ": false, "\u212a": false, "\u017f": false, "٣": false, "\ufffd": false,
		"a\xff": false, "\x80a": false, "a\x00": false, "a\n": false, "a\r\n": false, "[1.2.3.4]": false,

		// MaxBox bytes and one more.
		domainOf(api.MaxBox - 1): true, domainOf(api.MaxBox): true, domainOf(api.MaxBox + 1): false,
		strings.Repeat("a.", 31) + "a": true, strings.Repeat("a.", 31) + "aa": true, strings.Repeat("a.", 31) + "aaa": false,
		strings.Repeat("a.", 40) + "a": false, a(1 << 16): false, strings.Repeat("a.", 1<<16) + "a": false,
	}
}

// domainOf is a domain of n bytes, n from 33 on, good but for its length.
func domainOf(n int) string {
	d := strings.Repeat("b", 31) + "." + strings.Repeat("C", 32)
	if n <= len(d) {
		return d[:n]
	}
	return d[:62] + "." + strings.Repeat("d", n-63)
}

// locals has texts, and whether they are local parts.
func locals() map[string]bool {
	a := func(n int) string { return strings.Repeat("a", n) }
	return map[string]bool{
		"": false, "a": true, "Z": true, "0": true, "9": true,
		a(31): true, a(32): true, a(33): false, strings.Repeat("Q", 32): true, strings.Repeat("Q", 33): false,
		"Ann.B": true, "a+b_c-d": true, "a.b.c": true,

		// Points at the ends, two behind one another; they count as bytes too.
		".": false, "..": false, ".a": false, "a.": false, "a..b": false, "a...b": false, "a.b..c": false, ".a.b": false, "a.b.": false,
		a(30) + ".b": true, a(31) + ".b": false, a(32) + ".b": false, a(31) + ".": false, "." + a(31): false,

		// The other signs may stand at the ends, alone, and behind one another.
		"-": true, "_": true, "+": true, "--": true, "__": true, "++": true, "-a-": true, "_a_": true, "+a+": true,
		"-.-": true, "_.+": true, "+_-": true,
		strings.Repeat("-", 32): true, strings.Repeat("-", 33): false,

		"a b": false, " a": false, "a ": false, "é": false, "aé": false, "ａ": false, "\u212a": false, "٣": false, "\ufffd": false,
		"a\xff": false, "\x80a": false, "\xc3": false, "a,b": false, "\"a\"": false,
	}
}

func TestDomain(t *testing.T) {
	for s, want := range domains() {
		if got := addr.Domain(s); got != want {
			t.Errorf("Domain(%q): %v", s, got)
		}
	}
}

// good asks Parse, Split and Path for a mailbox of these parts.
func good(t *testing.T, local, domain, small string) {
	t.Helper()
	s := local + "@" + domain
	want := local + "@" + small
	if box, ok := addr.Parse(s); box != want || !ok {
		t.Errorf("Parse(%q): %q %v", s, box, ok)
	}
	if l, d, ok := addr.Split(s); l != local || d != small || !ok {
		t.Errorf("Split(%q): %q %q %v", s, l, d, ok)
	}
	if box, ok := addr.Path("<" + s + ">"); box != want || !ok {
		t.Errorf("Path(<%q>): %q %v", s, box, ok)
	}
	none(t, "Path", s, addr.Path)
}

// bad asks Parse, Split and Path for what is no mailbox.
func bad(t *testing.T, s string) {
	t.Helper()
	none(t, "Parse", s, addr.Parse)
	if l, d, ok := addr.Split(s); l != "" || d != "" || ok {
		t.Errorf("Split(%q): %q %q %v", s, l, d, ok)
	}
	if s != "" {
		none(t, "Path", "<"+s+">", addr.Path)
	}
}

// none asks that a call answers nothing and false.
func none(t *testing.T, name, s string, call func(string) (string, bool)) {
	t.Helper()
	if got, ok := call(s); got != "" || ok {
		t.Errorf("%s(%q): %q %v", name, s, got, ok)
	}
}

func TestMailboxesByTheirDomains(t *testing.T) {
	for d, want := range domains() {
		if want && len(d)+2 <= api.MaxBox {
			good(t, "a", d, strings.ToLower(d))
		} else {
			bad(t, "a@"+d)
		}
	}
}

func TestMailboxesByTheirLocalParts(t *testing.T) {
	for l, want := range locals() {
		if want {
			good(t, l, "b", "b")
			good(t, l, "B.Test", "b.test")
		} else {
			bad(t, l+"@b")
			bad(t, l+"@B.Test")
		}
	}
}

// TestEachByte has each byte in the places of a local part and of a domain.
func TestEachByte(t *testing.T) {
	plain := "abcdefghijklmnopqrstuvwxyzABCDEFGHIJKLMNOPQRSTUVWXYZ0123456789"
	for b := range 256 {
		c := string([]byte{byte(b)})
		letter := strings.Contains(plain, c)
		sign := strings.Contains("_+-", c)
		for _, local := range []string{c, c + "a", "a" + c, "a" + c + "a"} {
			if letter || sign || c == "." && local == "a.a" {
				good(t, local, "b", "b")
			} else {
				bad(t, local+"@b")
			}
		}
		for _, domain := range []string{c, c + "b", "b" + c, "b" + c + "b"} {
			is := letter || (c == "-" || c == ".") && domain == "b"+c+"b"
			if addr.Domain(domain) != is {
				t.Errorf("Domain(%q): %v", domain, !is)
			}
			if is {
				good(t, "a", domain, strings.ToLower(domain))
			} else {
				bad(t, "a@"+domain)
			}
		}
	}
}

func TestLengthsOfMailboxes(t *testing.T) {
	for n := 1; n <= 32; n++ {
		local := strings.Repeat("a", n)
		for m := 34; m <= api.MaxBox; m++ {
			domain := domainOf(m)
			if n+1+m <= api.MaxBox {
				good(t, local, domain, strings.ToLower(domain))
			} else {
				bad(t, local+"@"+domain)
			}
		}
	}
}

func TestPlacesOfTheAt(t *testing.T) {
	for _, s := range []string{"", "a", "a.b", "@", "@@", "@a", "a@", "a@@b", "@a@b", "a@b@", "a@b@c", "a@b.c@d", " a@b", "a@b ", "a@ b", "a @b", "<a@b>", "a@b\r\n", "a@b>"} {
		bad(t, s)
	}
	for n := range 100 {
		bad(t, strings.Repeat("@", n))
		bad(t, strings.Repeat("a", n))
	}
	bad(t, strings.Repeat("a@", 1<<16))
}

func TestLetters(t *testing.T) {
	for _, c := range []struct{ local, domain, small string }{
		{"Ann.B", "Mx.Test", "mx.test"}, // the chapter's example
		{"ann.b", "mx.test", "mx.test"},
		{"ANN.B", "MX.TEST", "mx.test"},
		{"aZ", "aZ-09.Az", "az-09.az"},
		{"ABCDEFGHIJKLMNOPQRSTUVWXYZ", "ABCDEFGHIJKLMNOPQRSTUVWXYZ", "abcdefghijklmnopqrstuvwxyz"},
		{"abcdefghijklmnopqrstuvwxyz", "abcdefghijklmnopqrstuvwxyz", "abcdefghijklmnopqrstuvwxyz"},
	} {
		good(t, c.local, c.domain, c.small)
		if !addr.Domain(c.domain) || !addr.Domain(c.small) {
			t.Errorf("Domain(%q)", c.domain)
		}
		// What Parse answers is a mailbox, and stays as it is.
		good(t, c.local, c.small, c.small)
	}
}

func TestPath(t *testing.T) {
	if s, ok := addr.Path("<>"); s != "" || !ok {
		t.Errorf("Path(<>): %q %v", s, ok)
	}
	if s, ok := addr.Path("<Ann.B@Mx.Test>"); s != "Ann.B@mx.test" || !ok {
		t.Errorf("Path: %q %v", s, ok)
	}
	for _, s := range []string{
		"", "<", ">", "><", "<<", ">>", "<<>>", "<>>", "<<>", "< >", " <>", "<> ", "a<>", "<>a", "<\x00>", "<>\r\n",
		"a@b", "<a@b", "a@b>", ">a@b<", "<<a@b>", "<a@b>>", "<<a@b>>", " <a@b>", "<a@b> ", "x<a@b>", "<a@b>x", "< a@b>", "<a@b >",
		"<a>", "<@>", "<a@>", "<@b>", "<a@b@c>", "<a@b><a@b>", "<a@b><>", "<><a@b>", "<a@b,c@d>", "<a@b>\xff", "\xff<a@b>", "<a@b\r\n>",
	} {
		none(t, "Path", s, addr.Path)
	}
	// < and > are beside the mailbox's MaxBox bytes.
	long := strings.Repeat("a", 32) + "@" + strings.Repeat("b", 31)
	if s, ok := addr.Path("<" + long + ">"); len(long) != api.MaxBox || s != long || !ok {
		t.Errorf("Path(<%s>): %q %v", long, s, ok)
	}
	none(t, "Path", "<"+long+"b>", addr.Path)
}

// TestManyTexts holds the calls against patterns, over texts of the signs that
// matter.
func TestManyTexts(t *testing.T) {
	label := `[a-zA-Z0-9](?:[a-zA-Z0-9-]{0,30}[a-zA-Z0-9])?`
	domain := regexp.MustCompile(`\A` + label + `(?:\.` + label + `)*\z`)
	local := regexp.MustCompile(`\A[a-zA-Z0-9_+-]+(?:\.[a-zA-Z0-9_+-]+)*\z`)
	signs := []string{"a", "Z", "0", "-", ".", "_", "@", "<", ">", "\xff"}
	var walk func(s string, left int)
	walk = func(s string, left int) {
		if got := addr.Domain(s); got != domain.MatchString(s) {
			t.Errorf("Domain(%q): %v", s, got)
		}
		l, d, _ := strings.Cut(s, "@")
		if local.MatchString(l) && domain.MatchString(d) {
			good(t, l, d, strings.ToLower(d))
		} else {
			bad(t, s)
		}
		for _, c := range signs {
			if left > 0 {
				walk(s+c, left-1)
			}
		}
	}
	walk("", 5)
}

// TestNewMemory: what is answered shares no memory with what was handed in (R4).
func TestNewMemory(t *testing.T) {
	for _, s := range []string{"ann@mx.test", "Ann@Mx.Test"} {
		in := strings.Clone("<" + s + ">")
		parsed, _ := addr.Parse(in[1 : len(in)-1])
		local, domain, _ := addr.Split(in[1 : len(in)-1])
		path, _ := addr.Path(in)
		for _, out := range []string{parsed, local, domain, path} {
			if out == "" || overlap(in, out) {
				t.Errorf("%q: %q shares its memory, or is nothing", in, out)
			}
		}
	}
}

func overlap(a, b string) bool {
	x, y := uintptr(unsafe.Pointer(unsafe.StringData(a))), uintptr(unsafe.Pointer(unsafe.StringData(b)))
	return x < y+uintptr(len(b)) && y < x+uintptr(len(a))
}
