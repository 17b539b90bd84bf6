package dots_test

import (
	"bytes"
	"regexp"
	"slices"
	"strings"
	"testing"
	"unsafe"

	"pillarbox/dots"
	"pillarbox/line"
)

// wantUnstuff asks for the text of a line, or for the end.
func wantUnstuff(t *testing.T, line, want string, end bool) {
	t.Helper()
	if text, ended := dots.Unstuff(line); text != want || ended != end {
		t.Errorf("Unstuff(%q) = %q, %v, want %q, %v", line, text, ended, want, end)
	}
}

// good asks for the texts of a body, and for what goes out.
func good(t *testing.T, body []byte, texts []string, out string) {
	t.Helper()
	if got, ok := dots.Lines(body); !ok || !slices.Equal(got, texts) {
		t.Errorf("Lines(%q) = %q, %v, want %q, true", body, got, ok, texts)
	}
	if got, ok := dots.Stuff(body); !ok || got != out {
		t.Errorf("Stuff(%q) = %q, %v, want %q, true", body, got, ok, out)
	}
}

// bad asks for nothing and false, of both.
func bad(t *testing.T, body string) {
	t.Helper()
	if got, ok := dots.Lines([]byte(body)); ok || len(got) != 0 {
		t.Errorf("Lines(%q) = %q, %v, want nothing, false", body, got, ok)
	}
	if got, ok := dots.Stuff([]byte(body)); ok || got != "" {
		t.Errorf("Stuff(%q) = %q, %v, want nothing, false", body, got, ok)
	}
}

// walk hands each text of at most most of these pieces to f.
func walk(pieces []string, most int, f func(string)) {
	var more func(s string, left int)
	more = func(s string, left int) {
		f(s)
		if left == 0 {
			return
		}
		for _, p := range pieces {
			more(s+p, left-1)
		}
	}
	more("", most)
}

func TestExample(t *testing.T) {
	good(t, []byte{'.', 'a', 10}, []string{".a"}, string([]byte{'.', '.', 'a', 13, 10, '.', 13, 10}))
}

func TestUnstuff(t *testing.T) {
	for _, c := range []struct{ line, text string }{
		{"", ""},
		{"..", "."},
		{"...", ".."},
		{"....", "..."},
		{".a", "a"},
		{".a.", "a."},
		{"..a", ".a"},
		{". ", " "},
		{" .", " ."},
		{"a", "a"},
		{"a.", "a."},
		{"a..", "a.."},
		{"a.b", "a.b"},
		{" ", " "},
		{"x\n.", "x\n."},
		{".\n", "\n"},
		{".\r\n", "\r\n"},
		{"\r\n", "\r\n"},
		{"\r\n.\r\n", "\r\n.\r\n"},
		{".\x00", "\x00"},
		{"\x00.", "\x00."},
		{".\xff\xfe", "\xff\xfe"},
		{"\xff.\xc3", "\xff.\xc3"},
		{".\xc3", "\xc3"},
		{"\xe3\x80\x82", "\xe3\x80\x82"},   // a point, but not that of ASCII
		{"\xef\xbc\x8e", "\xef\xbc\x8e"},   // likewise
		{".\xef\xbc\x8e", "\xef\xbc\x8e"},  // likewise, behind one
		{"\xef\xbb\xbf.", "\xef\xbb\xbf."}, // a mark of no width
	} {
		wantUnstuff(t, c.line, c.text, false)
	}
	wantUnstuff(t, ".", "", true)
}

func TestUnstuffEachByte(t *testing.T) {
	for b := range 256 {
		one := string([]byte{byte(b)})
		if one != "." {
			wantUnstuff(t, one, one, false)
			wantUnstuff(t, one+".", one+".", false)
			wantUnstuff(t, one+one, one+one, false)
		}
		wantUnstuff(t, "."+one, one, false)
		wantUnstuff(t, "."+one+".", one+".", false)
		wantUnstuff(t, ".."+one, "."+one, false)
	}
}

func TestUnstuffLong(t *testing.T) {
	for _, n := range []int{1000, 1 << 20} {
		points := strings.Repeat(".", n)
		wantUnstuff(t, points, points[1:], false)
		wantUnstuff(t, "a"+points, "a"+points, false)
	}
}

func TestUnstuffShort(t *testing.T) {
	form := regexp.MustCompile(`(?s)^\.?(.*)$`)
	walk([]string{".", "a", "\r", "\n"}, 6, func(s string) {
		if s == "." {
			return
		}
		wantUnstuff(t, s, form.FindStringSubmatch(s)[1], false)
	})
}

func TestBodies(t *testing.T) {
	for _, c := range []struct {
		body  string
		texts []string
		out   string
	}{
		{"", nil, ".\r\n"},
		{"\n", []string{""}, "\r\n.\r\n"},
		{"\n\n", []string{"", ""}, "\r\n\r\n.\r\n"},
		{"\n\n\n", []string{"", "", ""}, "\r\n\r\n\r\n.\r\n"},
		{"a\n", []string{"a"}, "a\r\n.\r\n"},
		{"a\nb\n", []string{"a", "b"}, "a\r\nb\r\n.\r\n"},
		{"a\n\nb\n\n", []string{"a", "", "b", ""}, "a\r\n\r\nb\r\n\r\n.\r\n"},
		{"\na\n", []string{"", "a"}, "\r\na\r\n.\r\n"},
		{".\n", []string{"."}, "..\r\n.\r\n"},
		{".\n.\n", []string{".", "."}, "..\r\n..\r\n.\r\n"},
		{"..\n", []string{".."}, "...\r\n.\r\n"},
		{"...\n", []string{"..."}, "....\r\n.\r\n"},
		{".a\n", []string{".a"}, "..a\r\n.\r\n"},
		{"..a\n", []string{"..a"}, "...a\r\n.\r\n"},
		{"a\n.b\n", []string{"a", ".b"}, "a\r\n..b\r\n.\r\n"},
		{"a.\n", []string{"a."}, "a.\r\n.\r\n"},
		{"a.b..\n", []string{"a.b.."}, "a.b..\r\n.\r\n"},
		{" .\n", []string{" ."}, " .\r\n.\r\n"},
		{".a.\n.\n\n..b\nc.\n", []string{".a.", ".", "", "..b", "c."}, "..a.\r\n..\r\n\r\n...b\r\nc.\r\n.\r\n"},
		{"\xff\x00\n.\xfe\n", []string{"\xff\x00", ".\xfe"}, "\xff\x00\r\n..\xfe\r\n.\r\n"},
		{"\xef\xbc\x8e\n", []string{"\xef\xbc\x8e"}, "\xef\xbc\x8e\r\n.\r\n"},
		{"a\x0bb\x0c\x85\n\xe2\x80\xa8\n", []string{"a\x0bb\x0c\x85", "\xe2\x80\xa8"}, "a\x0bb\x0c\x85\r\n\xe2\x80\xa8\r\n.\r\n"},
	} {
		good(t, []byte(c.body), c.texts, c.out)
	}
}

func TestNothingIsABody(t *testing.T) {
	spare := []byte("a\r")
	for _, none := range [][]byte{nil, {}, spare[:0], spare[1:1]} {
		good(t, none, nil, ".\r\n")
	}
}

func TestNoBodies(t *testing.T) {
	for _, s := range []string{
		"a", ".", "..", " ", "\x00", "\xff",
		"a\nb", "a\n.", "\n.", "\na", "\n\n ", "a\nb\nc",
		"\r", "\r\n", "a\r\n", "\n\r", "\n\r\n", "\ra\n", "a\rb\n", "\r\r\n",
		"a\nb\r\n", "a\r\nb\n", "a\nb\n\r", "a\n\rb\n", "a\nb\nc\rd\ne\n",
		".\r\n", "a\r\n.\r\n",
	} {
		bad(t, s)
	}
}

func TestEachByteOfABody(t *testing.T) {
	for b := range 256 {
		one := string([]byte{byte(b)})
		switch b {
		case '\n':
			good(t, []byte("a\nb\n"), []string{"a", "b"}, "a\r\nb\r\n.\r\n")
			continue
		case '\r':
			bad(t, "\r\n")
			bad(t, "a\rb\n")
			bad(t, "ab\n\r")
			continue
		}
		text := "a" + one + "b"
		good(t, []byte(text+"\n"), []string{text}, text+"\r\n.\r\n")
		ahead := ""
		if one == "." {
			ahead = "."
		}
		good(t, []byte(one+"\n"), []string{one}, ahead+one+"\r\n.\r\n")
		bad(t, one)
		bad(t, "\n"+one)
		bad(t, text+"\n"+one)
	}
}

// A byte 13 at each place of a body, and each piece of one.
func TestEachPlaceOfABody(t *testing.T) {
	body := "ab\n.c\n\n..\nd\n"
	for i := range len(body) + 1 {
		bad(t, body[:i]+"\r"+body[i:])
		if i > 0 && body[i-1] != '\n' {
			bad(t, body[:i])
		}
	}
}

func TestShortBodies(t *testing.T) {
	whole := regexp.MustCompile(`^([^\r\n]*\n)*$`)
	begin := regexp.MustCompile(`(?m)^\.`)
	walk([]string{".", "a", "\r", "\n"}, 7, func(s string) {
		if !whole.MatchString(s) {
			bad(t, s)
			return
		}
		texts := strings.Split(s, "\n")
		out := strings.ReplaceAll(begin.ReplaceAllString(s, ".."), "\n", "\r\n") + ".\r\n"
		good(t, []byte(s), texts[:len(texts)-1], out)
	})
}

func TestManyAndLongTexts(t *testing.T) {
	long := strings.Repeat(".x", 1<<18)
	good(t, []byte(long+"\n"), []string{long}, "."+long+"\r\n.\r\n")
	bad(t, long)
	const n = 1 << 16
	good(t, bytes.Repeat([]byte(".\n"), n), slices.Repeat([]string{"."}, n), strings.Repeat("..\r\n", n)+".\r\n")
	good(t, bytes.Repeat([]byte("\n"), n), make([]string, n), strings.Repeat("\r\n", n)+".\r\n")
}

// back reads what goes out as whoever gets it does: its lines, each unstuffed,
// the last of which is the end, and none ahead of that.
func back(t *testing.T, out string) []string {
	t.Helper()
	stream := new(line.Lines)
	stream.Feed([]byte(out))
	var texts []string
	for {
		came, _, ok := stream.Next(len(out))
		if !ok {
			t.Fatalf("%q has no end", out)
		}
		text, end := dots.Unstuff(came)
		if end {
			break
		}
		texts = append(texts, text)
	}
	if stream.Held() != 0 {
		t.Fatalf("%q has its end ahead of its last line", out)
	}
	return texts
}

func TestThereAndBack(t *testing.T) {
	walk([]string{"\n", ".\n", "..\n", "...a\n", "a.\n", ".\xff\x00\n", " .\n"}, 4, func(s string) {
		body := []byte(s)
		texts, ok := dots.Lines(body)
		if !ok || len(texts) != strings.Count(s, "\n") {
			t.Fatalf("Lines(%q) = %q, %v", s, texts, ok)
		}
		out, ok := dots.Stuff(body)
		if !ok {
			t.Fatalf("Stuff(%q) is false", s)
		}
		if got := back(t, out); !slices.Equal(got, texts) {
			t.Errorf("%q came back as %q", s, got)
		}
	})
}

// R4: what is handed in stays as it is, spare room included.
func TestBodyIsNotChanged(t *testing.T) {
	for _, s := range []string{"", "\n", ".a\n..\n\nb\n", "a\r\n", "a\nb", ".", "\r"} {
		room := []byte(s + "....\n\r\n")
		was := bytes.Clone(room)
		dots.Lines(room[:len(s)])
		dots.Stuff(room[:len(s)])
		if !bytes.Equal(room, was) {
			t.Errorf("%q became %q", was, room)
		}
	}
}

// R4: what was answered stays as it is, when what was handed in is changed.
func TestAnswersAreNotTheBody(t *testing.T) {
	body := []byte(".first\nsecond\n\n..third\n")
	texts, _ := dots.Lines(body)
	out, _ := dots.Stuff(body)
	for i := range body {
		body[i] = '!'
	}
	if want := []string{".first", "second", "", "..third"}; !slices.Equal(texts, want) {
		t.Errorf("the texts became %q", texts)
	}
	if want := "..first\r\nsecond\r\n\r\n...third\r\n.\r\n"; out != want {
		t.Errorf("what goes out became %q", out)
	}
}

// R4: no two answers share their lists.
func TestAnswersAreNew(t *testing.T) {
	body := []byte("first\nsecond\n")
	one, _ := dots.Lines(body)
	two, _ := dots.Lines(body)
	one[0] = "else"
	one = append(one[:1], "more")
	if want := []string{"first", "second"}; !slices.Equal(two, want) {
		t.Errorf("the other answer became %q", two)
	}
	if got, _ := dots.Lines(body); !slices.Equal(got, two) {
		t.Errorf("Lines answers %q behind a change of its answer", got)
	}
	if want := []string{"else", "more"}; !slices.Equal(one, want) {
		t.Errorf("the changed answer is %q", one)
	}
}

// R4: a text shares no memory with its line.
func TestTextIsNotItsLine(t *testing.T) {
	for _, s := range []string{".a text", "..a text", "a text", "a. text."} {
		text, _ := dots.Unstuff(s)
		at := uintptr(unsafe.Pointer(unsafe.StringData(text)))
		from := uintptr(unsafe.Pointer(unsafe.StringData(s)))
		if at < from+uintptr(len(s)) && from < at+uintptr(len(text)) {
			t.Errorf("Unstuff(%q) answers a piece of its line", s)
		}
	}
}
