package env_test

import (
	"bytes"
	"encoding/binary"
	"hash/crc32"
	"math"
	"slices"
	"strings"
	"testing"

	"pillarbox/api"
	"pillarbox/env"
)

// sample is an ordinary good mail, in memory of its own.
func sample() api.Mail {
	return api.Mail{
		ID: 7, Parent: 3, Born: 1000, From: "Ann.B@mx.test",
		Rcpts: []string{"c@d", "e_f+g@h-i.j"},
		Body:  []byte("hi\n.\n\n"),
	}
}

// turned is the sample, changed.
func turned(change func(m *api.Mail)) api.Mail {
	m := sample()
	change(&m)
	return m
}

// boxOf is a mailbox of n bytes, from 36 to 64.
func boxOf(n int) string {
	return strings.Repeat("a", 32) + "@b." + strings.Repeat("c", n-35)
}

func num(b []byte, n int) []byte { return binary.BigEndian.AppendUint64(b, uint64(n)) }

func text(b []byte, s string) []byte { return append(num(b, len(s)), s...) }

// inner lays what stands between the first number and the checksum by the
// chapter's words, whether the mail is good or not.
func inner(m api.Mail) []byte {
	b := num(num(num(nil, m.ID), m.Parent), m.Born)
	b = num(text(b, m.From), len(m.Rcpts))
	for _, rcpt := range m.Rcpts {
		b = text(b, rcpt)
	}
	return text(b, string(m.Body))
}

// wrapped lays a number ahead of bytes, and their right checksum behind.
func wrapped(n int, in []byte) []byte {
	b := append(num(nil, n), in...)
	return binary.BigEndian.AppendUint32(b, crc32.ChecksumIEEE(in))
}

func record(in []byte) []byte { return wrapped(len(in), in) }

// equal is Same by the chapter's words, for what the tests expect.
func equal(a, b api.Mail) bool {
	return a.ID == b.ID && a.Parent == b.Parent && a.Born == b.Born && a.From == b.From &&
		strings.Join(a.Rcpts, "\x00") == strings.Join(b.Rcpts, "\x00") && len(a.Rcpts) == len(b.Rcpts) &&
		string(a.Body) == string(b.Body)
}

// short is m without much of its body, for what a test tells.
func short(m api.Mail) api.Mail {
	m.Body = m.Body[:min(len(m.Body), 20)]
	return m
}

func wantDecoded(t *testing.T, b []byte, m api.Mail, n int) {
	t.Helper()
	got, k, ok := env.Decode(b)
	if !ok || k != n || !equal(got, m) {
		t.Errorf("Decode of %d bytes = %+v, %d, %v, want %+v, %d, true", len(b), short(got), k, ok, short(m), n)
	}
}

func wantNotDecoded(t *testing.T, b []byte) {
	t.Helper()
	got, n, ok := env.Decode(b)
	if ok || n != 0 || !equal(got, api.Mail{}) {
		t.Errorf("Decode of %d bytes (%.60q) = %+v, %d, %v, want nothing, 0, false", len(b), b, short(got), n, ok)
	}
}

// wantGood holds all calls to a mail that is good.
func wantGood(t *testing.T, m api.Mail) {
	t.Helper()
	if !env.Good(m) {
		t.Errorf("Good(%+v) = false", short(m))
	}
	want := record(inner(m))
	got, ok := env.Encode(m)
	if !ok || !bytes.Equal(got, want) {
		t.Errorf("Encode(%+v) = %.80q, %v, want %.80q, true", short(m), got, ok, want)
	}
	wantDecoded(t, want, m, len(want))
}

// wantBad holds all calls to a mail that is not good.
func wantBad(t *testing.T, m api.Mail) {
	t.Helper()
	if env.Good(m) {
		t.Errorf("Good(%+v) = true", short(m))
	}
	if got, ok := env.Encode(m); ok || len(got) != 0 {
		t.Errorf("Encode(%+v) = %.80q, %v, want nothing, false", short(m), got, ok)
	}
	wantNotDecoded(t, record(inner(m)))
}

func want(t *testing.T, good bool, m api.Mail) {
	t.Helper()
	if good {
		wantGood(t, m)
	} else {
		wantBad(t, m)
	}
}

func TestGoodSample(t *testing.T) {
	wantGood(t, sample())
	wantBad(t, api.Mail{})
}

func TestGoodID(t *testing.T) {
	for _, c := range []struct {
		id   int
		good bool
	}{
		{0, false}, {1, true}, {2, true}, {999999998, true}, {999999999, true}, {1000000000, false},
		{-1, false}, {-999999999, false}, {1<<32 + 1, false}, {1 << 62, false},
		{math.MinInt, false}, {math.MaxInt, false},
	} {
		want(t, c.good, turned(func(m *api.Mail) { m.ID, m.Parent = c.id, 0 }))
	}
}

func TestGoodParent(t *testing.T) {
	for _, c := range []struct {
		id, parent int
		good       bool
	}{
		{7, -1, false}, {7, 0, true}, {7, 1, true}, {7, 6, true}, {7, 7, false}, {7, 8, false},
		{1, -1, false}, {1, 0, true}, {1, 1, false}, {2, 1, true}, {2, 2, false},
		{999999999, 999999998, true}, {999999999, 999999999, false}, {999999999, 0, true},
		{7, math.MinInt, false}, {7, math.MaxInt, false}, {7, -7, false},
		{0, 0, false}, {0, -1, false}, {-3, -4, false}, {math.MinInt, math.MaxInt, false},
		{1000000000, 999999999, false}, {math.MaxInt, math.MaxInt - 1, false},
	} {
		want(t, c.good, turned(func(m *api.Mail) { m.ID, m.Parent = c.id, c.parent }))
	}
}

func TestGoodBorn(t *testing.T) {
	for _, c := range []struct {
		born int
		good bool
	}{
		{-1, false}, {0, true}, {1, true}, {1 << 32, true},
		{1099511627775, true}, {1099511627776, true}, {1099511627777, false},
		{1 << 62, false}, {math.MinInt, false}, {math.MaxInt, false},
	} {
		want(t, c.good, turned(func(m *api.Mail) { m.Born = c.born }))
	}
}

// boxes are mailboxes in Parse's form.
func boxes() []string {
	return []string{
		"a@b", "A@b", "Ann.B@mx.test", "ANN@b", "a@b.c.d", "0@0", "-@b", "_+.-@b-c", "a.b.c@d0",
		strings.Repeat("a", 32) + "@" + strings.Repeat("b", 31), boxOf(63), boxOf(64),
	}
}

// noBoxes are none, or are not in Parse's form.
func noBoxes() []string {
	return []string{
		"a@B", "a@mX.test", "A@B", "a@b.C", "a@bcdefZ",
		"a", "@", "a@", "@b", "a@b@c", "<a@b>", "<>", " ", " a@b", "a@b ", "a b@c", "a@b c",
		"a@b\n", "a@b\r", "a@b\x00", "\x00", "a@b.", "a@.b", "a@b..c", "a..b@c", ".a@b", "a.@b",
		"a@-b", "a@b-", "a@b_c", "\xff@b", "a@\xff", "é@b", "a@é",
		strings.Repeat("a", 33) + "@b", "a@" + strings.Repeat("b", 33), boxOf(65),
		strings.Repeat("a@b", 5000),
	}
}

func TestGoodFrom(t *testing.T) {
	for _, box := range append(boxes(), "") {
		wantGood(t, turned(func(m *api.Mail) { m.From = box }))
	}
	for _, box := range noBoxes() {
		wantBad(t, turned(func(m *api.Mail) { m.From = box }))
	}
}

func TestGoodRcpt(t *testing.T) {
	for _, box := range boxes() {
		wantGood(t, turned(func(m *api.Mail) { m.Rcpts = []string{box} }))
	}
	for _, box := range append(noBoxes(), "") {
		wantBad(t, turned(func(m *api.Mail) { m.Rcpts = []string{box} }))
	}
}

// many are n recipients that are unlike each other.
func many(n int) []string {
	list := make([]string, n)
	for i := range list {
		list[i] = "a" + strings.Repeat("b", i%20) + "@c" + strings.Repeat("d", i/20)
	}
	return list
}

func TestGoodRcptsCount(t *testing.T) {
	wantBad(t, turned(func(m *api.Mail) { m.Rcpts = nil }))
	wantBad(t, turned(func(m *api.Mail) { m.Rcpts = []string{} }))
	wantBad(t, turned(func(m *api.Mail) { m.Rcpts = m.Rcpts[:0] }))
	for n := range 20 {
		want(t, n >= 1 && n <= 8, turned(func(m *api.Mail) { m.Rcpts = many(n) }))
		want(t, n >= 1 && n <= 8, turned(func(m *api.Mail) { m.Rcpts = slices.Repeat([]string{"c@d"}, n) }))
	}
	wantBad(t, turned(func(m *api.Mail) { m.Rcpts = many(300) }))
}

// TestGoodRcptsPlaces: one that may not be, at each place of each list.
func TestGoodRcptsPlaces(t *testing.T) {
	for _, wrong := range []string{"", "a@B", "a", "<a@b>", "a@b ", boxOf(65)} {
		for n := 1; n <= 8; n++ {
			for at := range n {
				wantBad(t, turned(func(m *api.Mail) {
					m.Rcpts = many(n)
					m.Rcpts[at] = wrong
				}))
			}
		}
	}
}

func TestGoodRcptsTwice(t *testing.T) {
	for _, list := range [][]string{
		{"c@d", "c@d"}, {"c@d", "e@f", "c@d"}, {"C@d", "c@d"}, {"Ann.B@mx.test", "c@d"},
	} {
		wantGood(t, turned(func(m *api.Mail) { m.Rcpts = list }))
	}
}

func TestGoodBody(t *testing.T) {
	for _, c := range []struct {
		body string
		good bool
	}{
		{"", true}, {"\n", true}, {"\n\n", true}, {"a\n", true}, {"a\nb\n", true}, {".\n", true},
		{"..\n.a\n", true}, {"\x00\xff\n", true}, {" \n", true},
		{"a", false}, {".", false}, {"\na", false}, {"a\nb", false}, {" ", false}, {"\x00", false},
		{"\r\n", false}, {"a\r\n", false}, {"\r", false}, {"\n\r", false}, {"a\rb\n", false}, {"a\n\r\nb\n", false},
	} {
		want(t, c.good, turned(func(m *api.Mail) { m.Body = []byte(c.body) }))
	}
	wantGood(t, turned(func(m *api.Mail) { m.Body = nil }))
	wantGood(t, turned(func(m *api.Mail) { m.Body = []byte{} }))
}

// TestGoodBodyLength: at most 8192 bytes, in many lines and in one; no line is
// too long, those of more than 1000 bytes neither.
func TestGoodBodyLength(t *testing.T) {
	for _, n := range []int{999, 1000, 1001, 1002, 8190, 8191, 8192, 8193, 8194, 1 << 14, 1 << 16, 1 << 20} {
		for _, body := range []string{
			strings.Repeat("a", n-1) + "\n",
			strings.Repeat("\n", n),
			"\n" + strings.Repeat(".", n-2) + "\n",
		} {
			want(t, n <= 8192, turned(func(m *api.Mail) { m.Body = []byte(body) }))
		}
		wantBad(t, turned(func(m *api.Mail) { m.Body = bytes.Repeat([]byte("a"), n) }))
		wantBad(t, turned(func(m *api.Mail) { m.Body = []byte(strings.Repeat("\n", n-2) + "\r\n") }))
	}
}

// TestEncodeByHand: a record byte by byte. Its sum was worked out apart.
func TestEncodeByHand(t *testing.T) {
	m := api.Mail{ID: 258, Parent: 1, Born: 1 << 40, From: "a@b", Rcpts: []string{"C@d", "e.f@g"}, Body: []byte("h\n.\n")}
	want := []byte{
		0, 0, 0, 0, 0, 0, 0, 79,
		0, 0, 0, 0, 0, 0, 1, 2,
		0, 0, 0, 0, 0, 0, 0, 1,
		0, 0, 1, 0, 0, 0, 0, 0,
		0, 0, 0, 0, 0, 0, 0, 3, 97, 64, 98,
		0, 0, 0, 0, 0, 0, 0, 2,
		0, 0, 0, 0, 0, 0, 0, 3, 67, 64, 100,
		0, 0, 0, 0, 0, 0, 0, 5, 101, 46, 102, 64, 103,
		0, 0, 0, 0, 0, 0, 0, 4, 104, 10, 46, 10,
		225, 13, 53, 215,
	}
	got, ok := env.Encode(m)
	if !ok || !bytes.Equal(got, want) {
		t.Errorf("Encode = %v, %v, want %v, true", got, ok, want)
	}
	wantDecoded(t, want, m, len(want))
}

// TestEncodeLeast: the least mail there is.
func TestEncodeLeast(t *testing.T) {
	m := api.Mail{ID: 1, Rcpts: []string{"a@b"}}
	want := []byte{
		0, 0, 0, 0, 0, 0, 0, 59,
		0, 0, 0, 0, 0, 0, 0, 1,
		0, 0, 0, 0, 0, 0, 0, 0,
		0, 0, 0, 0, 0, 0, 0, 0,
		0, 0, 0, 0, 0, 0, 0, 0,
		0, 0, 0, 0, 0, 0, 0, 1,
		0, 0, 0, 0, 0, 0, 0, 3, 97, 64, 98,
		0, 0, 0, 0, 0, 0, 0, 0,
		192, 133, 159, 97,
	}
	got, ok := env.Encode(m)
	if !ok || !bytes.Equal(got, want) {
		t.Errorf("Encode = %v, %v, want %v, true", got, ok, want)
	}
	wantDecoded(t, want, m, len(want))
}

// greatest is the mail with the longest record.
func greatest() api.Mail {
	return api.Mail{
		ID: 999999999, Parent: 999999998, Born: 1 << 40, From: boxOf(64),
		Rcpts: slices.Repeat([]string{boxOf(64)}, 8), Body: []byte(strings.Repeat("a", 8191) + "\n"),
	}
}

func TestEncodeGreatest(t *testing.T) {
	wantGood(t, greatest())
	if b, _ := env.Encode(greatest()); len(b) != 8+24+8+64+8+8*(8+64)+8+8192+4 {
		t.Errorf("the longest record has %d bytes", len(b))
	}
}

// field is a value of a field, and whether a mail may have it.
type field[T any] struct {
	value T
	good  bool
}

// TestEdgesTogether: edges of all fields, each with each.
func TestEdgesTogether(t *testing.T) {
	ids := []field[[2]int]{
		{[2]int{0, 0}, false}, {[2]int{1, 0}, true}, {[2]int{1, 1}, false}, {[2]int{9, 8}, true},
		{[2]int{9, 9}, false}, {[2]int{9, -1}, false}, {[2]int{999999999, 0}, true}, {[2]int{1000000000, 0}, false},
	}
	borns := []field[int]{{-1, false}, {0, true}, {1 << 40, true}, {1<<40 + 1, false}}
	froms := []field[string]{{"", true}, {"A@b", true}, {"a@B", false}, {"a", false}}
	rcpts := []field[[]string]{
		{nil, false}, {[]string{"a@b"}, true}, {many(8), true}, {many(9), false},
		{[]string{"a@b", ""}, false}, {[]string{"a@b", "a@b"}, true}, {[]string{"a@B"}, false},
	}
	bodies := []field[string]{{"", true}, {"a\n.\n", true}, {"a", false}, {"a\r\n", false}}
	for _, id := range ids {
		for _, born := range borns {
			for _, from := range froms {
				for _, list := range rcpts {
					for _, body := range bodies {
						want(t, id.good && born.good && from.good && list.good && body.good, api.Mail{
							ID: id.value[0], Parent: id.value[1], Born: born.value, From: from.value,
							Rcpts: list.value, Body: []byte(body.value),
						})
					}
				}
			}
		}
	}
}

func wantSame(t *testing.T, same bool, a, b api.Mail) {
	t.Helper()
	if env.Same(a, b) != same || env.Same(b, a) != same {
		t.Errorf("Same(%+v, %+v) = %v, and %v the other way, want %v", short(a), short(b), env.Same(a, b), env.Same(b, a), same)
	}
}

// TestSameTurned: each field turned by itself, of good mails and others.
func TestSameTurned(t *testing.T) {
	wantSame(t, true, sample(), sample())
	wantSame(t, true, api.Mail{}, api.Mail{})
	wantSame(t, false, sample(), api.Mail{})
	for _, change := range []func(m *api.Mail){
		func(m *api.Mail) { m.ID++ },
		func(m *api.Mail) { m.ID = -m.ID },
		func(m *api.Mail) { m.ID += 1 << 32 },
		func(m *api.Mail) { m.Parent++ },
		func(m *api.Mail) { m.Parent = 0 },
		func(m *api.Mail) { m.Born++ },
		func(m *api.Mail) { m.Born = -1 },
		func(m *api.Mail) { m.Born += 1 << 32 },
		func(m *api.Mail) { m.ID, m.Parent = m.Parent, m.ID },
		func(m *api.Mail) { m.From = "" },
		func(m *api.Mail) { m.From = "ann.B@mx.test" },
		func(m *api.Mail) { m.From = "Ann.B@Mx.test" },
		func(m *api.Mail) { m.From += "x" },
		func(m *api.Mail) { m.Rcpts = nil },
		func(m *api.Mail) { m.Rcpts = m.Rcpts[:1] },
		func(m *api.Mail) { m.Rcpts = m.Rcpts[1:] },
		func(m *api.Mail) { m.Rcpts = append(m.Rcpts, "") },
		func(m *api.Mail) { m.Rcpts = append(m.Rcpts, m.Rcpts[1]) },
		func(m *api.Mail) { m.Rcpts[0] = "C@d" },
		func(m *api.Mail) { m.Rcpts[1] = "" },
		func(m *api.Mail) { slices.Reverse(m.Rcpts) },
		func(m *api.Mail) { m.Rcpts = []string{strings.Join(m.Rcpts, "")} },
		func(m *api.Mail) { m.Body = nil },
		func(m *api.Mail) { m.Body = m.Body[:5] },
		func(m *api.Mail) { m.Body = append(m.Body, '\n') },
		func(m *api.Mail) { m.Body[0] = 'H' },
		func(m *api.Mail) { m.Body[5] = 0 },
	} {
		wantSame(t, false, sample(), turned(change))
		wantSame(t, true, turned(change), turned(change))
		wantSame(t, false, turned(change), api.Mail{})
	}
}

func TestSameNilAndEmpty(t *testing.T) {
	room := make([]byte, 0, 9)
	for _, rcpts := range [][]string{nil, {}, many(3)[:0]} {
		for _, body := range [][]byte{nil, {}, room} {
			wantSame(t, true, api.Mail{ID: 1}, api.Mail{ID: 1, Rcpts: rcpts, Body: body})
			wantSame(t, true, api.Mail{ID: 1, Rcpts: []string{}, Body: []byte{}}, api.Mail{ID: 1, Rcpts: rcpts, Body: body})
			wantSame(t, false, api.Mail{ID: 1, Rcpts: []string{""}}, api.Mail{ID: 1, Rcpts: rcpts, Body: body})
			wantSame(t, false, api.Mail{ID: 1, Body: []byte{0}}, api.Mail{ID: 1, Rcpts: rcpts, Body: body})
		}
	}
}

// TestSameRoom: what lies behind a list is none of it.
func TestSameRoom(t *testing.T) {
	a, b := sample(), sample()
	a.Body, b.Body = []byte("a\nb")[:2], []byte("a\nc")[:2]
	a.Rcpts, b.Rcpts = []string{"a@b", "c@d"}[:1], []string{"a@b", "e@f"}[:1]
	wantSame(t, true, a, b)
}

// mails are good ones of all sorts.
func mails() []api.Mail {
	return []api.Mail{
		sample(), {ID: 1, Rcpts: []string{"a@b"}}, greatest(),
		turned(func(m *api.Mail) { m.From = "" }),
		turned(func(m *api.Mail) { m.Rcpts = many(8) }),
		turned(func(m *api.Mail) { m.Body = []byte("\x00\xff\n\n") }),
	}
}

// TestThereAndBack: whatever bytes stand behind a record.
func TestThereAndBack(t *testing.T) {
	behind := [][]byte{nil, {0}, {255}, make([]byte, 40), bytes.Repeat([]byte{255}, 40), []byte("hello"), num(nil, 1<<62), make([]byte, 1<<20)}
	for _, m := range mails() {
		b, ok := env.Encode(m)
		if !ok {
			t.Fatalf("Encode(%+v) is false", short(m))
		}
		got, _, _ := env.Decode(b)
		wantSame(t, true, got, m)
		for _, more := range behind {
			wantDecoded(t, append(bytes.Clone(b), more...), m, len(b))
		}
		for _, other := range mails() {
			both := append(bytes.Clone(b), record(inner(other))...)
			wantDecoded(t, both, m, len(b))
			wantDecoded(t, both[len(b):], other, len(both)-len(b))
			wantDecoded(t, both[:len(both)-1], m, len(b))
			wantNotDecoded(t, both[len(b):len(both)-1])
		}
	}
}

// TestDecodeExample: a record without its last byte.
func TestDecodeExample(t *testing.T) {
	b, _ := env.Encode(sample())
	wantNotDecoded(t, b[:len(b)-1])
}

func TestDecodeNothing(t *testing.T) {
	wantNotDecoded(t, nil)
	wantNotDecoded(t, []byte{})
	b, _ := env.Encode(sample())
	wantNotDecoded(t, b[:0])
	for n := range 100 {
		wantNotDecoded(t, make([]byte, n))
		wantNotDecoded(t, bytes.Repeat([]byte{255}, n))
	}
	wantNotDecoded(t, record(nil))
	wantNotDecoded(t, []byte("hello, this is no record of a mail\n"))
}

// TestDecodeCut: cut at every place, with nothing behind and with other bytes.
func TestDecodeCut(t *testing.T) {
	for _, m := range mails() {
		b := record(inner(m))
		for n := range len(b) {
			wantNotDecoded(t, b[:n])
			wantNotDecoded(t, b[:n:n])
		}
		for n := 1; n < min(len(b), 300); n++ {
			wantNotDecoded(t, append(bytes.Clone(b[:n]), b...))
			wantNotDecoded(t, b[n:])
		}
	}
}

// TestDecodeTurned: each byte turned into each other.
func TestDecodeTurned(t *testing.T) {
	whole := append(record(inner(sample())), make([]byte, 300)...)
	size := len(whole) - 300
	for at := range size {
		for by := 1; by < 256; by++ {
			b := bytes.Clone(whole)
			b[at] ^= byte(by)
			wantNotDecoded(t, b[:size])
			wantNotDecoded(t, b)
		}
	}
	b := record(inner(greatest()))
	for at := range b {
		b[at] ^= 1 << (at % 8)
		wantNotDecoded(t, b)
		b[at] ^= 1 << (at % 8)
	}
	wantDecoded(t, b, greatest(), len(b))
}

// TestDecodeSum: the four bytes' order, and of what the sum is.
func TestDecodeSum(t *testing.T) {
	in := inner(sample())
	b := record(in)
	for _, sum := range []uint32{
		0, math.MaxUint32, ^crc32.ChecksumIEEE(in), crc32.ChecksumIEEE(b[:len(b)-4]),
		crc32.ChecksumIEEE(append(bytes.Clone(in), 0)), crc32.ChecksumIEEE(in[1:]),
	} {
		wantNotDecoded(t, binary.BigEndian.AppendUint32(bytes.Clone(b[:len(b)-4]), sum))
	}
	wantNotDecoded(t, binary.LittleEndian.AppendUint32(bytes.Clone(b[:len(b)-4]), crc32.ChecksumIEEE(in)))
}

// TestDecodeFirstNum: a first number that is not how many bytes follow.
func TestDecodeFirstNum(t *testing.T) {
	in := inner(sample())
	for n := range 3 * len(in) {
		if n == len(in) {
			continue
		}
		b := wrapped(n, in)
		wantNotDecoded(t, b)
		wantNotDecoded(t, append(b, make([]byte, 3*len(in))...))
	}
	for _, n := range []int{
		1 << 16, 1 << 31, 1 << 32, 1<<32 + len(in), 1 << 40, 1<<61 + len(in), 1<<62 - 12, 1<<62 - 1, 1 << 62, 1<<62 + 1,
		1<<62 + len(in), math.MaxInt - 12, math.MaxInt - 8, math.MaxInt - 1, math.MaxInt,
		math.MinInt, math.MinInt + len(in), -1 << 62, -len(in), -12, -11, -8, -4, -1,
	} {
		wantNotDecoded(t, wrapped(n, in))
		wantNotDecoded(t, num(nil, n))
		wantNotDecoded(t, append(num(nil, n), 0, 0, 0, 0))
	}
}

// TestDecodeLess: the first number and the sum are those of a content that is
// cut, or has its beginning cut off.
func TestDecodeLess(t *testing.T) {
	for _, m := range mails() {
		in := inner(m)
		for n := range min(len(in), 300) {
			wantNotDecoded(t, record(in[:n]))
			wantNotDecoded(t, record(in[n+1:]))
			wantNotDecoded(t, append(record(in[:n]), in...))
		}
	}
}

// TestDecodeMore: bytes left over ahead of the checksum, which is right.
func TestDecodeMore(t *testing.T) {
	for _, m := range mails() {
		in := inner(m)
		for _, more := range [][]byte{{0}, {'\n'}, {255}, make([]byte, 8), text(nil, "a@b"), text(nil, "a\n"), in} {
			wantNotDecoded(t, record(append(bytes.Clone(in), more...)))
			wantNotDecoded(t, record(append(bytes.Clone(more), in...)))
		}
	}
}

// withCount lays a content that says another number of recipients than it has.
func withCount(m api.Mail, n int) []byte {
	in := inner(m)
	binary.BigEndian.PutUint64(in[24+8+len(m.From):], uint64(n))
	return in
}

func TestDecodeRcptsCount(t *testing.T) {
	for have := range 12 {
		m := turned(func(m *api.Mail) { m.Rcpts = many(have) })
		for say := range 20 {
			if say == have && have >= 1 && have <= 8 {
				wantGood(t, m)
				continue
			}
			wantNotDecoded(t, record(withCount(m, say)))
		}
		for _, say := range []int{1 << 20, 1 << 31, 1<<32 + have, 1 << 40, 1<<62 - 1, 1 << 62, 1<<62 + 1, math.MaxInt, math.MinInt, math.MinInt + have, -1} {
			wantNotDecoded(t, record(withCount(m, say)))
		}
	}
}

// TestDecodeLengths: the length of each text says otherwise than what follows.
func TestDecodeLengths(t *testing.T) {
	m := sample()
	from := 24
	first := from + 8 + len(m.From) + 8
	second := first + 8 + len(m.Rcpts[0])
	body := second + 8 + len(m.Rcpts[1])
	for _, at := range []int{from, first, second, body} {
		in := inner(m)
		right := int(binary.BigEndian.Uint64(in[at:]))
		for _, n := range []int{
			0, 1, right - 1, right + 1, right + 8, len(in), len(in) - at - 8, len(in) - at,
			1 << 31, 1 << 62, 1<<62 + 1, math.MaxInt, math.MinInt, -1,
		} {
			if n == right {
				continue
			}
			binary.BigEndian.PutUint64(in[at:], uint64(n))
			wantNotDecoded(t, record(in))
		}
	}
}

// TestDecodeNumbers: numbers of a content that no good mail has, its checksum
// being right.
func TestDecodeNumbers(t *testing.T) {
	for at, good := range [][]int{{4, 7, 999999999}, {0, 3, 6}, {0, 1000, 1 << 40}} {
		for _, n := range []int{-1, 0, 3, 4, 6, 7, 1000, 999999999, 1000000000, 1 << 40, 1<<40 + 1, 1 << 62, 1<<62 + 1, math.MaxInt, math.MinInt} {
			in := inner(sample())
			binary.BigEndian.PutUint64(in[8*at:], uint64(n))
			_, size, ok := env.Decode(record(in))
			within := n >= good[0] && n <= good[2]
			if ok != within || ok && size != len(in)+12 || !ok && size != 0 {
				t.Errorf("number %d is %d: %d, %v", at, n, size, ok)
			}
		}
	}
}

// TestDecodeIsEncodeBack: each byte of a content turned into each other, and
// the sum made right again: what is answered is that content's own mail, and
// nothing else is.
func TestDecodeIsEncodeBack(t *testing.T) {
	decoded := 0
	for _, m := range []api.Mail{sample(), {ID: 2, Rcpts: []string{"a@b"}, Body: []byte("\n")}} {
		in := inner(m)
		for at := range in {
			for by := 1; by < 256; by++ {
				turn := bytes.Clone(in)
				turn[at] ^= byte(by)
				b := record(turn)
				got, n, ok := env.Decode(b)
				if !ok {
					wantNotDecoded(t, b)
					continue
				}
				decoded++
				if n != len(b) || !bytes.Equal(inner(got), turn) || !env.Good(got) || env.Same(got, m) {
					t.Errorf("%q at %d by %d: %+v, %d", turn, at, by, got, n)
				}
			}
		}
	}
	if decoded == 0 {
		t.Error("no content that was turned is a good mail's")
	}
}

// crowded is a mail whose lists have room behind them that others use.
func crowded() (m api.Mail, rcpts []string, body []byte) {
	rcpts = []string{"x@x", "c@d", "e@f", "y@y", "z@z"}
	body = []byte("xxhi\n.\nyyyyyyyyyyyyyyyy")
	m = sample()
	m.Rcpts, m.Body = rcpts[1:3], body[2:7]
	return m, rcpts, body
}

// R4: what is handed in stays as it is, spare room included.
func TestMailIsNotChanged(t *testing.T) {
	m, rcpts, body := crowded()
	wasRcpts, wasBody := slices.Clone(rcpts), bytes.Clone(body)
	good, bad := m, m
	bad.ID = 0
	for _, m := range []api.Mail{good, bad} {
		env.Good(m)
		env.Encode(m)
		env.Same(m, m)
		env.Same(m, sample())
		env.Same(sample(), m)
	}
	if !slices.Equal(rcpts, wasRcpts) || !bytes.Equal(body, wasBody) {
		t.Errorf("what was handed in became %q, %q", rcpts, body)
	}
	wantGood(t, good)
}

func TestBytesAreNotChanged(t *testing.T) {
	b := record(inner(sample()))
	for _, size := range []int{0, 5, 8, 20, len(b) - 1, len(b), len(b) + 7} {
		room := append(bytes.Clone(b), "some room behind"...)
		was := bytes.Clone(room)
		m, _, _ := env.Decode(room[:size])
		m.Body = append(m.Body, "appended"...)
		m.Rcpts = append(m.Rcpts, "appended")
		if !bytes.Equal(room, was) {
			t.Errorf("with %d bytes %q became %q", size, was, room)
		}
	}
}

// R4: what was answered stays as it is, when what was handed in is changed.
func TestRecordIsNotTheMail(t *testing.T) {
	m, rcpts, body := crowded()
	want := record(inner(m))
	got, _ := env.Encode(m)
	clear(rcpts)
	clear(body)
	if !bytes.Equal(got, want) {
		t.Errorf("the record became %q", got)
	}
}

func TestDecodedIsNotTheBytes(t *testing.T) {
	b := record(inner(sample()))
	m, _, _ := env.Decode(b)
	for i := range b {
		b[i] = '!'
	}
	if !equal(m, sample()) {
		t.Errorf("the mail became %+v", m)
	}
}

// R4: no two answers share their lists.
func TestAnswersAreNew(t *testing.T) {
	b := record(inner(sample()))
	one, _, _ := env.Decode(b)
	two, _, _ := env.Decode(b)
	clear(one.Body[:cap(one.Body)])
	clear(one.Rcpts[:cap(one.Rcpts)])
	if !equal(two, sample()) {
		t.Errorf("the other mail became %+v", two)
	}
	wantDecoded(t, b, sample(), len(b))

	first, _ := env.Encode(sample())
	second, _ := env.Encode(sample())
	clear(first[:cap(first)])
	if !bytes.Equal(second, b) {
		t.Errorf("the other record became %q", second)
	}
	wantGood(t, sample())
}
