package line_test

import (
	"bytes"
	"math"
	"strings"
	"testing"

	"pillarbox/api"
	"pillarbox/line"
)

// fed is a stream that got these parts.
func fed(parts ...string) *line.Lines {
	l := new(line.Lines)
	for _, p := range parts {
		l.Feed([]byte(p))
	}
	return l
}

// wantText asks for a line that is not too long.
func wantText(t *testing.T, l *line.Lines, most int, want string) {
	t.Helper()
	if text, long, ok := l.Next(most); text != want || long || !ok {
		t.Errorf("Next(%d) = %q, %v, %v, want %q, false, true", most, text, long, ok, want)
	}
}

// wantLong asks for a line that is too long.
func wantLong(t *testing.T, l *line.Lines, most int) {
	t.Helper()
	if text, long, ok := l.Next(most); text != "" || !long || !ok {
		t.Errorf("Next(%d) = %q, %v, %v, want nothing, true, true", most, text, long, ok)
	}
}

// wantNone asks, with every sort of most, for a line that is not whole, and
// that asking takes no byte away.
func wantNone(t *testing.T, l *line.Lines, held int) {
	t.Helper()
	wantHeld(t, l, held)
	for _, most := range []int{9, 0, -1, 1, api.MaxCommand, math.MinInt, math.MaxInt, 9} {
		if text, long, ok := l.Next(most); text != "" || long || ok {
			t.Errorf("Next(%d) = %q, %v, %v, want nothing, false, false", most, text, long, ok)
		}
		wantHeld(t, l, held)
	}
}

func wantHeld(t *testing.T, l *line.Lines, want int) {
	t.Helper()
	if got := l.Held(); got != want {
		t.Errorf("Held() = %d, want %d", got, want)
	}
}

func TestExample(t *testing.T) {
	l := new(line.Lines)
	l.Feed([]byte{'a', 13, 10, 'b'})
	wantHeld(t, l, 4)
	wantText(t, l, 9, "a")
	wantNone(t, l, 1)
}

func TestNewHasNothing(t *testing.T) {
	wantNone(t, new(line.Lines), 0)
}

func TestFeedOfNothing(t *testing.T) {
	spare := []byte("x\r\ny\r\n")
	for _, none := range [][]byte{nil, {}, spare[:0], spare[3:3]} {
		l := new(line.Lines)
		l.Feed(none)
		wantNone(t, l, 0)
		l.Feed([]byte("ab\r"))
		l.Feed(none)
		wantNone(t, l, 3)
		l.Feed([]byte("\nc"))
		l.Feed(none)
		wantHeld(t, l, 5)
		wantText(t, l, 9, "ab")
		l.Feed(none)
		wantNone(t, l, 1)
	}
}

func TestEndInTwoFeeds(t *testing.T) {
	l := fed("ab\r")
	wantNone(t, l, 3)
	l.Feed([]byte("\n"))
	wantHeld(t, l, 4)
	wantText(t, l, 9, "ab")
	wantNone(t, l, 0)
	l.Feed([]byte("\r"))
	wantNone(t, l, 1)
	l.Feed([]byte("\nc\r"))
	wantHeld(t, l, 4)
	wantText(t, l, 9, "")
	wantNone(t, l, 2)
	// What came behind the 13 is no 10: the 13 was a byte of the text.
	l.Feed([]byte("d\n\r"))
	wantNone(t, l, 5)
	l.Feed([]byte("\n"))
	wantText(t, l, 9, "c\rd\n")
	wantNone(t, l, 0)
}

// streams has bytes, the texts of the lines that are whole in them, and how
// many bytes stand behind these.
func streams() map[string]struct {
	texts []string
	rest  int
} {
	type lines = struct {
		texts []string
		rest  int
	}
	return map[string]lines{
		"":            {nil, 0},
		"a":           {nil, 1},
		"\r":          {nil, 1},
		"\n":          {nil, 1},
		"\n\r":        {nil, 2},
		"\r\r":        {nil, 2},
		"\n\n":        {nil, 2},
		"\r\n":        {[]string{""}, 0},
		"\r\n\r\n":    {[]string{"", ""}, 0},
		"\r\n\r\n\r":  {[]string{"", ""}, 1},
		"a\r\n\r\nb":  {[]string{"a", ""}, 1},
		"\r\na\r\n":   {[]string{"", "a"}, 0},
		"a\rb\r\n":    {[]string{"a\rb"}, 0},
		"a\nb\r\n":    {[]string{"a\nb"}, 0},
		"a\n\rb\r\n":  {[]string{"a\n\rb"}, 0},
		"a\r\r\nb":    {[]string{"a\r"}, 1},
		"\r\r\n":      {[]string{"\r"}, 0},
		"\r\r\r\n\n":  {[]string{"\r\r"}, 1},
		"\n\r\n":      {[]string{"\n"}, 0},
		"\n\r\r\n":    {[]string{"\n\r"}, 0},
		"a\r\n\nb":    {[]string{"a"}, 2},
		"a\r\n\n\r\n": {[]string{"a", "\n"}, 0},
		"a\r\n\r":     {[]string{"a"}, 1},
		"a\nb\rc":     {nil, 5},

		// Other bytes end nothing, and no byte is changed.
		"a\x00b\r\n\xff\x80\r\n": {[]string{"a\x00b", "\xff\x80"}, 0},
		"é\u2028\u0085\r\nä":     {[]string{"é\u2028\u0085"}, 2},
		" a \t\v\f\r\n. ":        {[]string{" a \t\v\f"}, 2},
		"\\r\\n":                 {nil, 4},
	}
}

func TestStreams(t *testing.T) {
	for s, want := range streams() {
		l := fed(s)
		held := len(s)
		wantHeld(t, l, held)
		for _, text := range want.texts {
			wantText(t, l, len(text), text)
			held -= len(text) + 2
			wantHeld(t, l, held)
		}
		wantNone(t, l, want.rest)
	}
}

func TestEachByteInAText(t *testing.T) {
	for b := range 256 {
		c := string([]byte{byte(b)})
		l := fed("x" + c + "y\r\n" + c + "\r\n" + c)
		wantText(t, l, 3, "x"+c+"y")
		wantText(t, l, 1, c)
		wantNone(t, l, 1)
	}
}

// answer is what a Next told, and how many bytes were held behind it.
type answer struct {
	text string
	long bool
	held int
}

// all takes every line that is whole. Each has at least its end's two bytes:
// with more lines than that allows, some byte did not go, and it gives up.
func all(l *line.Lines, most int) []answer {
	var out []answer
	for range l.Held()/2 + 1 {
		text, long, ok := l.Next(most)
		if !ok {
			break
		}
		out = append(out, answer{text, long, l.Held()})
	}
	return out
}

// modelled tells a stream's lines by the chapter's words, byte by byte.
func modelled(s string, most int) []answer {
	var out []answer
	begin := 0
	for i := 0; i < len(s); i++ {
		if s[i] != 10 || i == begin || s[i-1] != 13 {
			continue
		}
		a := answer{text: s[begin : i-1], held: len(s) - i - 1}
		if len(a.text) > max(most, 0) {
			a.text, a.long = "", true
		}
		out = append(out, a)
		begin = i + 1
	}
	return out
}

func checkSame(t *testing.T, s string, got, want []answer) {
	t.Helper()
	if len(got) != len(want) {
		t.Fatalf("of %q: %v, want %v", s, got, want)
	}
	for i := range got {
		if got[i] != want[i] {
			t.Fatalf("of %q: %v, want %v", s, got, want)
		}
	}
}

// short calls f with every text of at most n of the bytes that matter.
func short(n int, f func(s string)) {
	var grow func(s string)
	grow = func(s string) {
		f(s)
		if len(s) == n {
			return
		}
		for _, c := range []string{"a", "\r", "\n"} {
			grow(s + c)
		}
	}
	grow("")
}

func TestShortStreams(t *testing.T) {
	short(9, func(s string) {
		for most := -1; most <= 3; most++ {
			checkSame(t, s, all(fed(s), most), modelled(s, most))
		}
		l := fed(s)
		rest := len(s)
		for _, a := range all(l, 9) {
			rest = a.held
		}
		wantHeld(t, l, rest)
	})
}

// parted cuts s in the way of the bits of cuts: behind byte i, if bit i is 1.
func parted(s string, cuts int) []string {
	var parts []string
	begin := 0
	for i := range s {
		if cuts>>i&1 == 1 {
			parts = append(parts, s[begin:i+1])
			begin = i + 1
		}
	}
	return append(parts, s[begin:])
}

// TestParts feeds each text in each way that it can be cut, with lines taken
// in the end, or behind each part: they are the same.
func TestParts(t *testing.T) {
	short(7, func(s string) {
		want := modelled(s, 2)
		for cuts := range 1 << max(len(s)-1, 0) {
			parts := parted(s, cuts)
			checkSame(t, s, all(fed(parts...), 2), want)

			l := new(line.Lines)
			var got []answer
			left := len(s)
			for _, p := range parts {
				l.Feed([]byte(p))
				left -= len(p)
				for _, a := range all(l, 2) {
					// As if what is still to come were held already.
					a.held += left
					got = append(got, a)
				}
			}
			checkSame(t, s, got, want)
		}
	})
}

func TestPartsOfALongerStream(t *testing.T) {
	s := "HELO x\r\n\r\nlonger\rthan\nten\r\r\n\n\r\r\nab\r"
	want := modelled(s, 10)
	for i := range len(s) + 1 {
		for j := i; j <= len(s); j++ {
			checkSame(t, s, all(fed(s[:i], s[i:j], s[j:]), 10), want)
		}
	}
	checkSame(t, s, all(fed(strings.Split(s, "")...), 10), want)
}

func TestMost(t *testing.T) {
	for _, most := range []int{1, 2, 3, 9, api.MaxCommand, api.MaxText, api.MaxBody, 1 << 20} {
		for _, sign := range []string{"a", "\r", "\n", "\xff"} {
			l := fed(strings.Repeat(sign, most-1)+"\r\n", strings.Repeat(sign, most)+"\r\n", strings.Repeat(sign, most+1)+"\r\n", "b\r\nc")
			wantHeld(t, l, 3*most+6+4)
			wantText(t, l, most, strings.Repeat(sign, most-1))
			wantHeld(t, l, 2*most+5+4)
			wantText(t, l, most, strings.Repeat(sign, most))
			wantHeld(t, l, most+3+4)
			wantLong(t, l, most)
			wantHeld(t, l, 4)
			wantText(t, l, most, "b")
			wantNone(t, l, 1)
		}
	}
}

// TestMostOfNothing: below 0 is as 0, so an empty line is not too long.
func TestMostOfNothing(t *testing.T) {
	for _, most := range []int{0, -1, -2, -1 << 31, math.MinInt + 1, math.MinInt} {
		l := fed("\r\na\r\n\r\n\r\r\nbc\r\nd\r\n\r")
		wantText(t, l, most, "")
		wantLong(t, l, most)
		wantHeld(t, l, 13)
		wantText(t, l, most, "")
		wantLong(t, l, most)
		wantHeld(t, l, 8)
		wantLong(t, l, most)
		wantHeld(t, l, 4)
		// A most is of one call alone.
		wantText(t, l, 1, "d")
		wantNone(t, l, 1)
	}
}

func TestMostWithoutABound(t *testing.T) {
	text := strings.Repeat("a\r", 1<<16)
	l := fed(text + "\r\n\r\n")
	wantText(t, l, math.MaxInt, text)
	wantText(t, l, math.MaxInt, "")
	wantNone(t, l, 0)
}

// TestNotWholeIsNotLong: a text is too long only when its end has come, and
// the end itself does not count.
func TestNotWholeIsNotLong(t *testing.T) {
	n := api.MaxCommand
	l := fed(strings.Repeat("a", n))
	wantNone(t, l, n)
	l.Feed([]byte("\r"))
	wantNone(t, l, n+1)
	l.Feed([]byte("\n"))
	wantText(t, l, n, strings.Repeat("a", n))
	wantNone(t, l, 0)

	l.Feed(bytes.Repeat([]byte("a"), 10*n))
	wantNone(t, l, 10*n)
	l.Feed([]byte("\r\nb\r\n"))
	wantHeld(t, l, 10*n+5)
	wantLong(t, l, n)
	wantHeld(t, l, 3)
	wantText(t, l, n, "b")
	wantNone(t, l, 0)
}

// TestNoneThenMore: a Next that had no line changes nothing for later ones.
func TestNoneThenMore(t *testing.T) {
	l := new(line.Lines)
	wantNone(t, l, 0)
	l.Feed([]byte("a"))
	wantNone(t, l, 1)
	wantNone(t, l, 1)
	l.Feed([]byte("b\r"))
	wantNone(t, l, 3)
	l.Feed([]byte("\r"))
	wantNone(t, l, 4)
	l.Feed([]byte("\n\n"))
	wantHeld(t, l, 6)
	wantText(t, l, 3, "ab\r")
	wantNone(t, l, 1)
	l.Feed([]byte("c\r\nd\r\n"))
	wantHeld(t, l, 7)
	wantLong(t, l, 1)
	wantText(t, l, 1, "d")
	wantNone(t, l, 0)
	l.Feed([]byte("\r\n"))
	wantText(t, l, 1, "")
	wantNone(t, l, 0)
}

func TestManyLines(t *testing.T) {
	const n = 1 << 17
	l := fed(strings.Repeat("a\r\nbc\r\n", n), "d")
	for i := range n {
		wantText(t, l, 2, "a")
		wantText(t, l, 2, "bc")
		wantHeld(t, l, 7*(n-1-i)+1)
	}
	wantNone(t, l, 1)
}

// TestFedMayChange: who fed a list may write into it, and feed it again; it
// is itself not changed, its spare room included (R4).
func TestFedMayChange(t *testing.T) {
	whole := []byte("ab\r\ncdXXXXXXXXXXXX")
	was := string(whole)
	b := whole[:6]
	l := new(line.Lines)
	for range 3 {
		l.Feed(b)
		l.Feed([]byte("ef\r\n"))
	}
	wantText(t, l, 9, "ab")
	if string(whole) != was {
		t.Errorf("what was fed is now %q", whole)
	}
	for i := range whole {
		whole[i] = '\n'
	}
	for i := range 3 {
		if i > 0 {
			wantText(t, l, 9, "ab")
		}
		wantText(t, l, 9, "cdef")
	}
	wantNone(t, l, 0)
	l.Feed(b[:1])
	l.Feed([]byte("\r\n"))
	b[0] = 'x'
	wantText(t, l, 9, "\n")
	if string(whole[1:]) != strings.Repeat("\n", len(was)-1) {
		t.Errorf("what was fed is now %q", whole)
	}
}

// TestOneListForAll: a list that is used anew for each Feed, as one that is
// read into would be.
func TestOneListForAll(t *testing.T) {
	s := "ab\r\n\r\ncd\ref\r\ng"
	one := make([]byte, 1, 8)
	l := new(line.Lines)
	for i := range len(s) {
		one[0] = s[i]
		l.Feed(one)
	}
	checkSame(t, s, all(l, 9), modelled(s, 9))
	if !bytes.Equal(one[:8], []byte{'g', 0, 0, 0, 0, 0, 0, 0}) {
		t.Errorf("what was fed is now %v", one[:8])
	}
}

// TestTextsStay: what was answered is not changed by what comes later.
func TestTextsStay(t *testing.T) {
	l := new(line.Lines)
	var texts []string
	for i := range 1000 {
		l.Feed([]byte(strings.Repeat(string(rune('a'+i%26)), i%40) + "\r\n"))
		text, _, _ := l.Next(40)
		texts = append(texts, text)
	}
	for i, text := range texts {
		if text != strings.Repeat(string(rune('a'+i%26)), i%40) {
			t.Errorf("text %d is now %q", i, text)
		}
	}
}

func TestStreamsAreApart(t *testing.T) {
	a, b := new(line.Lines), new(line.Lines)
	a.Feed([]byte("a\r"))
	b.Feed([]byte("\nb\r\n"))
	wantNone(t, a, 2)
	wantText(t, b, 9, "\nb")
	wantNone(t, b, 0)
	a.Feed([]byte("\n"))
	wantText(t, a, 9, "a")
	wantNone(t, b, 0)
}

func TestNil(t *testing.T) {
	var l *line.Lines
	wantNone(t, l, 0)
	for _, b := range []string{"a\r\nb", "\r\n", ""} {
		l.Feed([]byte(b))
		wantNone(t, l, 0)
	}
	l.Feed(nil)
	wantNone(t, l, 0)
}
