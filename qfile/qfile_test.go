package qfile_test

import (
	"bytes"
	"encoding/binary"
	"fmt"
	"hash/crc32"
	"math"
	"slices"
	"strings"
	"testing"

	"pillarbox/api"
	"pillarbox/env"
	"pillarbox/mark"
	"pillarbox/qfile"
)

// mailTo is a good mail with n recipients.
func mailTo(n int) api.Mail {
	m := api.Mail{ID: 7, Parent: 3, Born: 1000, From: "Ann.B@mx.test", Body: []byte("hi\n.\n\n")}
	for i := range n {
		m.Rcpts = append(m.Rcpts, fmt.Sprintf("r%d@d%d.test", i, i%3))
	}
	return m
}

// mails are good ones of all sorts.
func mails() []api.Mail {
	list := []api.Mail{
		{ID: 1, Rcpts: []string{"a@b"}},
		{ID: api.MaxID, Parent: api.MaxID - 1, Born: api.MaxTime, From: "c@d", Rcpts: []string{"a@b", "a@b"}},
		{ID: 5, Rcpts: []string{"a@b"}, Body: []byte(strings.Repeat("0123456789abcde\n", api.MaxBody/16))},
	}
	for n := 1; n <= api.MaxRcpts; n++ {
		list = append(list, mailTo(n))
	}
	return list
}

// laid are a mark's bytes, and those of three numbers that are no good mark's.
func laid(k api.Mark) []byte {
	var b []byte
	for _, n := range []int{k.Kind, k.Rcpt, k.N} {
		b = binary.BigEndian.AppendUint64(b, uint64(n))
	}
	return binary.BigEndian.AppendUint32(b, crc32.ChecksumIEEE(b))
}

// record is a mail's record, and that of one that is not good.
func record(m api.Mail) []byte {
	b := binary.BigEndian.AppendUint64(make([]byte, 8), uint64(m.ID))
	b = binary.BigEndian.AppendUint64(b, uint64(m.Parent))
	b = binary.BigEndian.AppendUint64(b, uint64(m.Born))
	text := func(s string) {
		b = append(binary.BigEndian.AppendUint64(b, uint64(len(s))), s...)
	}
	text(m.From)
	b = binary.BigEndian.AppendUint64(b, uint64(len(m.Rcpts)))
	for _, rcpt := range m.Rcpts {
		text(rcpt)
	}
	text(string(m.Body))
	binary.BigEndian.PutUint64(b, uint64(len(b)-8))
	return binary.BigEndian.AppendUint32(b, crc32.ChecksumIEEE(b[8:]))
}

// file lays a mail's record and marks behind it.
func file(m api.Mail, list ...api.Mark) []byte {
	b := record(m)
	for _, k := range list {
		b = append(b, laid(k)...)
	}
	return b
}

// marks are n good ones, of all kinds and of all recipients a mail may have.
func marks(n int) []api.Mark {
	list := make([]api.Mark, n)
	for i := range list {
		list[i] = api.Mark{Kind: 1 + i%5, Rcpt: i % 8, N: i * i}
	}
	return list
}

// same tells whether a File says of a mail and its marks what it is to say.
func same(f qfile.File, m api.Mail, list []api.Mark) bool {
	return env.Same(f.Mail, m) && slices.Equal(f.Marks, list) && f.Good == len(record(m))+28*len(list)
}

func wantFile(t *testing.T, b []byte, m api.Mail, list []api.Mark) {
	t.Helper()
	f, ok := qfile.Parse(b)
	if !ok || !same(f, m, list) {
		t.Errorf("Parse of %d bytes = %.300s, %v, want the mail %.100s, %d marks and %d", len(b), fmt.Sprint(f), ok,
			fmt.Sprint(m), len(list), len(record(m))+28*len(list))
	}
}

func wantNothing(t *testing.T, b []byte) {
	t.Helper()
	f, ok := qfile.Parse(b)
	if ok || !env.Same(f.Mail, api.Mail{}) || len(f.Marks) != 0 || f.Good != 0 {
		t.Errorf("Parse of %d bytes (%.80q) = %.300s, %v, want an empty File, false", len(b), b, fmt.Sprint(f), ok)
	}
}

// TestLaid: the tests' own bytes are those of chapters 10 and 11.
func TestLaid(t *testing.T) {
	for _, m := range mails() {
		if b, ok := env.Encode(m); !ok || !bytes.Equal(b, record(m)) {
			t.Errorf("Encode(%v) = %v, %v, want %v", m, b, ok, record(m))
		}
	}
	for _, k := range marks(40) {
		if b, ok := mark.Encode(k); !ok || !bytes.Equal(b, laid(k)) {
			t.Errorf("Encode(%v) = %v, %v, want %v", k, b, ok, laid(k))
		}
	}
}

// TestExample: the chapter's example, with each of the halves of a mark.
func TestExample(t *testing.T) {
	for n := range 28 {
		b := append(file(mailTo(2)), laid(api.Mark{Kind: api.Try})[:n]...)
		wantFile(t, b, mailTo(2), nil)
	}
}

func TestRecordAlone(t *testing.T) {
	for _, m := range mails() {
		wantFile(t, file(m), m, nil)
		wantFile(t, slices.Clip(file(m)), m, nil)
	}
}

// behind are bytes that no good mark begins with.
func behind() [][]byte {
	return [][]byte{
		nil, {0}, {255}, {1, 2}, make([]byte, 27), make([]byte, 28), make([]byte, 100), bytes.Repeat([]byte{255}, 100),
		[]byte("hello"), laid(api.Mark{Kind: api.Try})[:27], laid(api.Mark{Kind: api.Try})[1:], laid(api.Mark{}),
		file(mailTo(1)), file(mailTo(1), marks(3)...), make([]byte, 1<<20),
	}
}

// TestMarksBehind: records with marks, whatever stands behind.
func TestMarksBehind(t *testing.T) {
	for _, m := range mails() {
		for n := range 12 {
			for _, more := range behind() {
				wantFile(t, append(file(m, marks(n)...), more...), m, marks(n))
			}
		}
	}
	list := marks(9)
	slices.Reverse(list)
	wantFile(t, file(mailTo(8), list...), mailTo(8), list)
	wantFile(t, file(mailTo(8), slices.Repeat(list[:1], 9)...), mailTo(8), slices.Repeat(list[:1], 9))
}

// TestOtherRecipients: marks of recipients that the mail does not have are
// marks of the file all the same.
func TestOtherRecipients(t *testing.T) {
	list := []api.Mark{{Kind: api.Sent, Rcpt: 7}, {Kind: api.Try}, {Kind: api.Try, Rcpt: 1}}
	wantFile(t, file(mailTo(1), list...), mailTo(1), list)
}

// TestCut: a file cut at every place, with nothing and with other bytes
// behind.
func TestCut(t *testing.T) {
	m := mailTo(3)
	b, size := file(m, marks(4)...), len(record(m))
	for n := range len(b) + 1 {
		for _, more := range [][]byte{nil, bytes.Repeat([]byte{255}, 60)} {
			cut := append(bytes.Clone(b[:n]), more...)
			if n < size {
				wantNothing(t, cut)
			} else {
				wantFile(t, cut, m, marks((n-size)/28))
			}
		}
		if n < size {
			wantNothing(t, b[:n:n])
		}
		if n > 0 {
			wantNothing(t, b[n:])
		}
	}
}

// TestTurned: each byte of a file turned into others.
func TestTurned(t *testing.T) {
	m := mailTo(2)
	b, size := file(m, marks(3)...), len(record(m))
	for at := range b {
		for by := 1; by < 256; by++ {
			turned := bytes.Clone(b)
			turned[at] ^= byte(by)
			if at < size {
				wantNothing(t, turned)
			} else {
				wantFile(t, turned, m, marks((at-size)/28))
			}
		}
	}
}

// noMails are mails that are not good, each by one thing alone.
func noMails() []api.Mail {
	var list []api.Mail
	for _, change := range []func(m *api.Mail){
		func(m *api.Mail) { m.ID = 0 },
		func(m *api.Mail) { m.ID = -1 },
		func(m *api.Mail) { m.ID = api.MaxID + 1 },
		func(m *api.Mail) { m.ID, m.Parent = 3, 3 },
		func(m *api.Mail) { m.Parent = -1 },
		func(m *api.Mail) { m.Born = -1 },
		func(m *api.Mail) { m.Born = api.MaxTime + 1 },
		func(m *api.Mail) { m.From = "nobody" },
		func(m *api.Mail) { m.From = "a@B" },
		func(m *api.Mail) { m.Rcpts = nil },
		func(m *api.Mail) { m.Rcpts[1] = "" },
		func(m *api.Mail) { m.Rcpts[1] = "c@D" },
		func(m *api.Mail) { m.Rcpts = slices.Repeat(m.Rcpts, 5) },
		func(m *api.Mail) { m.Body = []byte("no end") },
		func(m *api.Mail) { m.Body = bytes.Repeat([]byte("a\n"), api.MaxBody/2+1) },
		func(m *api.Mail) { m.Body = []byte("a\r\n") },
	} {
		m := mailTo(2)
		change(&m)
		list = append(list, m)
	}
	return list
}

// TestNoGoodMail: a record that is no good mail's, its checksum being right,
// alone and with marks behind.
func TestNoGoodMail(t *testing.T) {
	for _, m := range noMails() {
		if env.Good(m) {
			t.Fatalf("%v is a good mail", m)
		}
		wantNothing(t, file(m))
		wantNothing(t, file(m, marks(3)...))
	}
}

// TestNoGoodMark: a mark that is not good, its checksum being right, at each
// place among others.
func TestNoGoodMark(t *testing.T) {
	for _, k := range []api.Mark{
		{}, {Kind: 6}, {Kind: -1}, {Kind: api.Try, Rcpt: 8}, {Kind: api.Try, Rcpt: -1}, {Kind: api.Try, N: -1},
		{Kind: api.Defer, N: api.MaxTime + 1}, {Kind: api.Sent, Rcpt: math.MinInt}, {Kind: math.MaxInt},
	} {
		for at := range 6 {
			list := slices.Insert(marks(5), at, k)
			wantFile(t, file(mailTo(8), list...), mailTo(8), marks(at))
		}
	}
}

func TestMaxMarks(t *testing.T) {
	for _, n := range []int{4095, 4096, 4097, 4200} {
		wantFile(t, file(mailTo(2), marks(n)...), mailTo(2), marks(min(n, 4096)))
	}
}

func TestNoRecord(t *testing.T) {
	wantNothing(t, nil)
	wantNothing(t, []byte{})
	wantNothing(t, record(mailTo(1))[:0])
	for n := range 200 {
		wantNothing(t, make([]byte, n))
		wantNothing(t, bytes.Repeat([]byte{255}, n))
	}
	wantNothing(t, []byte("hello, this is no record of any mail\n"))
	for n := range 8 {
		var b []byte
		for _, k := range marks(n) {
			b = append(b, laid(k)...)
		}
		wantNothing(t, b)
		if n > 0 {
			wantNothing(t, append(b, file(mailTo(2))...))
		}
	}
}

// parsed is what Parse answers of a mail with n recipients and marks.
func parsed(t *testing.T, n int, list []api.Mark) qfile.File {
	t.Helper()
	f, ok := qfile.Parse(file(mailTo(n), list...))
	if !ok || !same(f, mailTo(n), list) {
		t.Fatalf("Parse answers %v, %v", f, ok)
	}
	return f
}

// all is what is asked of a File.
type all struct {
	fates   []api.Fate
	open    []int
	crashes int
	over    bool
	due     int
}

func wantAll(t *testing.T, n int, list []api.Mark, w all) {
	t.Helper()
	f := parsed(t, n, list)
	fates, open, crashes, over, due := f.Fates(), f.Open(), f.Crashes(), f.Over(), qfile.Due(f)
	if !slices.Equal(fates, w.fates) || !slices.Equal(open, w.open) || crashes != w.crashes || over != w.over || due != w.due {
		t.Errorf("%d recipients by %v: %v, open %v, %d crashes, over %v, due %d, want %v", n, list, fates, open, crashes, over, due, w)
	}
	if !same(f, mailTo(n), list) {
		t.Errorf("the File became %v", f)
	}
}

func try(rcpt int) api.Mark      { return api.Mark{Kind: api.Try, Rcpt: rcpt} }
func sent(rcpt int) api.Mark     { return api.Mark{Kind: api.Sent, Rcpt: rcpt} }
func failed(rcpt int) api.Mark   { return api.Mark{Kind: api.Failed, Rcpt: rcpt} }
func crash(rcpt int) api.Mark    { return api.Mark{Kind: api.Crash, Rcpt: rcpt} }
func later(rcpt, n int) api.Mark { return api.Mark{Kind: api.Defer, Rcpt: rcpt, N: n} }

// TestNoMarks: as many fates as the mail has recipients, all of them waiting
// from the beginning.
func TestNoMarks(t *testing.T) {
	for n := 1; n <= 8; n++ {
		wantAll(t, n, nil, all{fates: make([]api.Fate, n)})
	}
}

// TestSomeNamed: each set of recipients is named by marks, whether the mail
// has them or not.
func TestSomeNamed(t *testing.T) {
	for n := 1; n <= 8; n++ {
		for set := range 256 {
			var list []api.Mark
			w := all{fates: make([]api.Fate, n), due: api.MaxTime}
			for i := 7; i >= 0; i-- {
				if set>>i&1 == 1 {
					list = append(list, try(i))
				}
			}
			for i := range n {
				if set>>i&1 == 1 {
					w.fates[i].Open = true
					w.open = append(w.open, i)
				} else {
					w.due = 0
				}
			}
			wantAll(t, n, list, w)
		}
	}
}

func TestOthersMarks(t *testing.T) {
	for kind := 1; kind <= 5; kind++ {
		var list []api.Mark
		for i := 2; i < 8; i++ {
			list = append(list, try(i), api.Mark{Kind: kind, Rcpt: i, N: 5})
		}
		wantAll(t, 2, list, all{fates: make([]api.Fate, 2)})
		wantAll(t, 2, append(list, sent(0), later(1, 9)), all{
			fates: []api.Fate{{State: api.Delivered}, {Next: 9}}, due: 9,
		})
	}
	wantAll(t, 1, []api.Mark{crash(3), crash(3), sent(0)}, all{fates: []api.Fate{{State: api.Delivered}}, over: true, due: api.MaxTime})
}

func TestOpen(t *testing.T) {
	for _, c := range []struct {
		list []api.Mark
		open []int
	}{
		{nil, nil},
		{[]api.Mark{try(2), try(0), try(1)}, []int{0, 1, 2}},
		{[]api.Mark{try(2), try(2)}, []int{2}},
		{[]api.Mark{try(2), try(0)}, []int{0, 2}},
		{[]api.Mark{try(2), try(0), crash(2)}, []int{0}},
		{[]api.Mark{try(2), crash(2), try(2)}, []int{2}},
		{[]api.Mark{try(0), crash(0)}, nil},
		{[]api.Mark{try(0), sent(0), try(1), failed(1), try(2), later(2, 5)}, nil},
		{[]api.Mark{sent(0), try(0), failed(1), try(1), later(2, 5), try(2)}, []int{2}},
	} {
		if got := parsed(t, 3, c.list).Open(); !slices.Equal(got, c.open) {
			t.Errorf("Open by %v = %v, want %v", c.list, got, c.open)
		}
	}
}

func TestCrashes(t *testing.T) {
	for _, c := range []struct {
		list    []api.Mark
		crashes int
	}{
		{nil, 0},
		{[]api.Mark{try(0), later(0, 5), try(1), sent(1)}, 0},
		{[]api.Mark{try(1), crash(1)}, 1},
		{[]api.Mark{crash(0), crash(1), crash(2)}, 1},
		{[]api.Mark{crash(0), crash(1), crash(1), crash(2)}, 2},
		{[]api.Mark{crash(0), crash(0), crash(0), crash(2), crash(2)}, 3},
		{[]api.Mark{crash(2), crash(2), crash(2), crash(2)}, 4},
		{[]api.Mark{crash(0), crash(0), sent(0), crash(0), crash(1)}, 2},
		{[]api.Mark{try(0), crash(0), failed(0)}, 1},
		{slices.Repeat([]api.Mark{try(1), crash(1)}, 2048), 2048},
	} {
		if got := parsed(t, 3, c.list).Crashes(); got != c.crashes {
			t.Errorf("Crashes by %.20v = %d, want %d", c.list, got, c.crashes)
		}
	}
}

func TestOver(t *testing.T) {
	for _, c := range []struct {
		list []api.Mark
		over bool
	}{
		{nil, false},
		{[]api.Mark{sent(0), sent(1)}, false},
		{[]api.Mark{sent(1), failed(2)}, false},
		{[]api.Mark{sent(0), failed(2)}, false},
		{[]api.Mark{sent(0), sent(1), sent(2)}, true},
		{[]api.Mark{failed(0), failed(1), failed(2)}, true},
		{[]api.Mark{failed(0), sent(1), failed(2), try(1)}, true},
		{[]api.Mark{sent(0), sent(1), try(2)}, false},
		{[]api.Mark{sent(0), sent(1), crash(2)}, false},
		{[]api.Mark{sent(0), sent(1), later(2, 5)}, false},
		{[]api.Mark{sent(0), sent(1), sent(3), sent(4)}, false},
	} {
		if got := parsed(t, 3, c.list).Over(); got != c.over {
			t.Errorf("Over by %v = %v, want %v", c.list, got, c.over)
		}
	}
}

func TestDue(t *testing.T) {
	const never = api.MaxTime
	for _, c := range []struct {
		list []api.Mark
		due  int
	}{
		{nil, 0},
		{[]api.Mark{later(0, 5)}, 0},
		{[]api.Mark{later(0, 9), later(1, 5), later(2, 7)}, 5},
		{[]api.Mark{later(0, 5), later(1, 9), later(2, 7)}, 5},
		{[]api.Mark{later(0, 9), later(1, 7), later(2, 5)}, 5},
		{[]api.Mark{later(0, 9), later(1, 5), later(2, 7), try(1)}, 7},
		{[]api.Mark{later(0, 9), later(1, 5), later(2, 7), try(1), crash(1)}, 5},
		{[]api.Mark{later(0, 9), later(1, 5), later(2, 7), try(1), later(1, 8)}, 7},
		{[]api.Mark{later(0, 9), later(1, 5), later(2, 7), sent(1)}, 7},
		{[]api.Mark{later(0, 9), later(1, 5), later(2, 7), failed(1), sent(2)}, 9},
		{[]api.Mark{later(0, never), later(1, never), sent(2)}, never},
		{[]api.Mark{later(0, never), later(1, never-1), sent(2)}, never - 1},
		{[]api.Mark{later(0, 1), sent(0), later(1, 2), sent(1), later(2, 3), failed(2)}, never},
		{[]api.Mark{later(0, 1), try(0), later(1, 2), try(1), later(2, 3), try(2)}, never},
		{[]api.Mark{try(0), try(1), sent(2)}, never},
		{[]api.Mark{try(0), try(1), try(2), crash(2)}, 0},
		{[]api.Mark{later(0, 5), later(1, 6), later(2, 7), later(5, 1)}, 5},
	} {
		if got := qfile.Due(parsed(t, 3, c.list)); got != c.due {
			t.Errorf("Due by %v = %d, want %d", c.list, got, c.due)
		}
	}
}

// fate is how a recipient of all sorts came to be what it is.
type fate struct {
	list []api.Mark
	fate api.Fate
}

func sorts() []fate {
	return []fate{
		{nil, api.Fate{}},
		{[]api.Mark{try(0)}, api.Fate{Open: true}},
		{[]api.Mark{try(0), later(0, 6)}, api.Fate{Tries: 1, Next: 6}},
		{[]api.Mark{later(0, 3), try(0)}, api.Fate{Next: 3, Open: true}},
		{[]api.Mark{later(0, api.MaxTime)}, api.Fate{Next: api.MaxTime}},
		{[]api.Mark{try(0), crash(0), crash(0), later(0, 4)}, api.Fate{Next: 4, Crashes: 2}},
		{[]api.Mark{crash(0), try(0)}, api.Fate{Crashes: 1, Open: true}},
		{[]api.Mark{try(0), sent(0)}, api.Fate{State: api.Delivered, Tries: 1}},
		{[]api.Mark{later(0, 2), crash(0), crash(0), crash(0), failed(0)}, api.Fate{State: api.Bounced, Next: 2, Crashes: 3}},
	}
}

// TestAllSorts: three recipients of each sort, each with each, held against
// the words of P12.2.
func TestAllSorts(t *testing.T) {
	for _, a := range sorts() {
		for _, b := range sorts() {
			for _, c := range sorts() {
				var list []api.Mark
				w := all{over: true, due: api.MaxTime}
				for i, one := range []fate{a, b, c} {
					for _, k := range one.list {
						k.Rcpt = i
						list = append(list, k)
					}
					w.fates = append(w.fates, one.fate)
					if one.fate.Open {
						w.open = append(w.open, i)
					}
					w.crashes = max(w.crashes, one.fate.Crashes)
					if one.fate.State == api.Waiting {
						w.over = false
						if !one.fate.Open {
							w.due = min(w.due, one.fate.Next)
						}
					}
				}
				wantAll(t, 3, list, w)
			}
		}
	}
}

// R1: a File that Parse did not answer.
func TestAnyFile(t *testing.T) {
	rcpts := make([]string, 20)
	list := append(marks(9), api.Mark{Kind: 9, Rcpt: math.MinInt, N: math.MaxInt}, api.Mark{Kind: api.Crash, Rcpt: 19})
	for _, f := range []qfile.File{
		{}, {Good: -1, Marks: list}, {Mail: api.Mail{Rcpts: rcpts}, Marks: list}, {Mail: api.Mail{Rcpts: rcpts}},
	} {
		f.Fates()
		f.Open()
		f.Crashes()
		f.Over()
		qfile.Due(f)
	}
}

// R4: what is handed in stays as it is, spare room included.
func TestNotChanged(t *testing.T) {
	b := file(mailTo(3), marks(4)...)
	for _, size := range []int{0, 8, 40, len(record(mailTo(3))), len(b) - 40, len(b) - 1, len(b)} {
		room := append(bytes.Clone(b), laid(try(1))...)
		was := bytes.Clone(room)
		f, _ := qfile.Parse(room[:size])
		f.Fates()
		clear(f.Marks[:cap(f.Marks)])
		clear(f.Mail.Rcpts[:cap(f.Mail.Rcpts)])
		clear(f.Mail.Body[:cap(f.Mail.Body)])
		if !bytes.Equal(room, was) {
			t.Errorf("with %d bytes %q became %q", size, was, room)
		}
	}
}

// R4: what was answered stays as it is, when the bytes change later.
func TestKept(t *testing.T) {
	b := file(mailTo(3), marks(4)...)
	f, _ := qfile.Parse(b)
	for i := range b {
		b[i] = '!'
	}
	if !same(f, mailTo(3), marks(4)) {
		t.Errorf("the File became %v", f)
	}
}

// R4: no two answers share their memory.
func TestNew(t *testing.T) {
	list := []api.Mark{try(0), try(2), later(1, 6)}
	b := file(mailTo(3), list...)
	one, _ := qfile.Parse(b)
	two, _ := qfile.Parse(b)
	clear(one.Marks[:cap(one.Marks)])
	clear(one.Mail.Rcpts[:cap(one.Mail.Rcpts)])
	clear(one.Mail.Body[:cap(one.Mail.Body)])
	if !same(two, mailTo(3), list) {
		t.Errorf("the other File became %v", two)
	}
	fates, open := two.Fates(), two.Open()
	clear(fates[:cap(fates)])
	clear(open[:cap(open)])
	wantAll(t, 3, list, all{fates: []api.Fate{{Open: true}, {Next: 6}, {Open: true}}, open: []int{0, 2}, due: 6})
	if !same(two, mailTo(3), list) || !slices.Equal(two.Open(), []int{0, 2}) {
		t.Errorf("the File became %v", two)
	}
}
