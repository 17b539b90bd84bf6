package store_test

import (
	"bytes"
	"encoding/binary"
	"fmt"
	"hash/crc32"
	"maps"
	"math"
	"slices"
	"strings"
	"testing"

	"pillarbox/api"
	"pillarbox/env"
	"pillarbox/fs"
	"pillarbox/mark"
	"pillarbox/store"
)

const plenty = 1 << 20 // bytes of a disk that does not get full

// must fails the test at once if a call that prepares it has an error.
func must(t *testing.T, errs ...api.Errno) {
	t.Helper()
	for i, e := range errs {
		if e != api.OK {
			t.Fatalf("call %d of these: error %d", i, e)
		}
	}
}

// name is a file's name, by other means than Name.
func name(queue byte, id int) string { return fmt.Sprintf("%c-%09d", queue, id) }

// mail is a good one but for its ID, and different for each n.
func mail(n int) api.Mail {
	return api.Mail{
		Born: n, From: "Ann.B@mx.test", Rcpts: []string{fmt.Sprintf("r%d@d.test", n), "c@d"},
		Body: []byte(strings.Repeat("hi\n", n%5)),
	}
}

func withID(m api.Mail, id int) api.Mail {
	m.ID = id
	return m
}

func withParent(m api.Mail, id int) api.Mail {
	m.Parent = id
	return m
}

// record is a mail's record, and that of one that is not good.
func record(m api.Mail) []byte {
	b := binary.BigEndian.AppendUint64(make([]byte, 8), uint64(m.ID))
	b = binary.BigEndian.AppendUint64(b, uint64(m.Parent))
	b = binary.BigEndian.AppendUint64(b, uint64(m.Born))
	text := func(s string) {
		b = append(binary.BigEndian.AppendUint64(b, uint64(len(s))), s...)
	}
	text(m.From)
	b = binary.BigEndian.AppendUint64(b, uint64(len(m.Rcpts)))
	for _, rcpt := range m.Rcpts {
		text(rcpt)
	}
	text(string(m.Body))
	binary.BigEndian.PutUint64(b, uint64(len(b)-8))
	return binary.BigEndian.AppendUint32(b, crc32.ChecksumIEEE(b[8:]))
}

// laid are a mark's bytes.
func laid(k api.Mark) []byte {
	var b []byte
	for _, n := range []int{k.Kind, k.Rcpt, k.N} {
		b = binary.BigEndian.AppendUint64(b, uint64(n))
	}
	return binary.BigEndian.AppendUint32(b, crc32.ChecksumIEEE(b))
}

// marks are n good ones, of all kinds and of all recipients a mail may have.
func marks(n int) []api.Mark {
	list := make([]api.Mark, n)
	for i := range list {
		list[i] = api.Mark{Kind: 1 + i%5, Rcpt: i % 8, N: i * i}
	}
	return list
}

// file lays a mail's record and marks behind it.
func file(m api.Mail, list ...api.Mark) []byte {
	b := record(m)
	for _, k := range list {
		b = append(b, laid(k)...)
	}
	return b
}

// TestLaid: the tests' own bytes are those of chapters 10 and 11.
func TestLaid(t *testing.T) {
	for n := range 20 {
		m := withParent(withID(mail(n), 20+n), n)
		if b, ok := env.Encode(m); !ok || !bytes.Equal(b, record(m)) {
			t.Errorf("Encode(%v) = %v, %v, want %v", m, b, ok, record(m))
		}
	}
	for _, k := range marks(20) {
		if b, ok := mark.Encode(k); !ok || !bytes.Equal(b, laid(k)) {
			t.Errorf("Encode(%v) = %v, %v, want %v", k, b, ok, laid(k))
		}
	}
}

// files are what a disk has, by names.
type files map[string][]byte

// disk is one whose names and bytes are all sure.
func disk(t *testing.T, have files) *fs.FS {
	t.Helper()
	f := fs.New(plenty)
	for _, name := range slices.Sorted(maps.Keys(have)) {
		must(t, f.Create(name), f.Append(name, have[name]), f.Sync(name))
	}
	must(t, f.DirSync())
	return f
}

// contents are what a disk has that has power.
func contents(t *testing.T, f *fs.FS) files {
	t.Helper()
	have := files{}
	for _, name := range f.List() {
		b, e := f.Read(name)
		must(t, e)
		have[name] = b
	}
	return have
}

func (a files) same(b files) bool { return maps.EqualFunc(a, b, bytes.Equal) }

// brief tells of names, and how many bytes each has.
func (a files) brief() string {
	var s []string
	for _, name := range slices.Sorted(maps.Keys(a)) {
		s = append(s, fmt.Sprintf("%s:%d", name, len(a[name])))
	}
	return strings.Join(s, " ")
}

func wantFiles(t *testing.T, f *fs.FS, want files) {
	t.Helper()
	if got := contents(t, f); !got.same(want) {
		t.Errorf("the disk has %s, want %s (and other bytes, where the counts are the same)", got.brief(), want.brief())
	}
}

func open(t *testing.T, f *fs.FS) *store.Store {
	t.Helper()
	s, e := store.Open(f)
	if e != api.OK || s == nil {
		t.Fatalf("Open = %v, %d", s, e)
	}
	return s
}

// fresh is a Store of a new disk with mails 1 to n in i.
func fresh(t *testing.T, n int) (*fs.FS, *store.Store) {
	t.Helper()
	f := fs.New(plenty)
	s := open(t, f)
	for id := 1; id <= n; id++ {
		wantID(t, s, mail(id), id)
	}
	return f, s
}

// wantID: a mail is Committed, and gets that ID.
func wantID(t *testing.T, s *store.Store, m api.Mail, want int) {
	t.Helper()
	if id, e := s.Commit(m); id != want || e != api.OK {
		t.Fatalf("Commit = %d, %d, want %d", id, e, want)
	}
}

// wantMail: a mail is there, in that queue alone, and its file says that.
func wantMail(t *testing.T, s *store.Store, queue byte, m api.Mail, list ...api.Mark) {
	t.Helper()
	if got := s.Where(m.ID); got != queue {
		t.Errorf("Where(%d) = %q, want %q", m.ID, got, queue)
	}
	for _, q := range []byte("iadhc") {
		if slices.Contains(s.List(q), m.ID) != (q == queue) {
			t.Errorf("List(%q) = %v, with %d in %q", q, s.List(q), m.ID, queue)
		}
	}
	x, ok := s.File(m.ID)
	if !ok || !env.Same(x.Mail, m) || !slices.Equal(x.Marks, list) || x.Good != len(file(m, list...)) {
		t.Errorf("File(%d) = %v, %v, want %v, %v, %d", m.ID, x, ok, m, list, len(file(m, list...)))
	}
}

// wantNoFile: File has nothing.
func wantNoFile(t *testing.T, s *store.Store, id int) {
	t.Helper()
	if x, ok := s.File(id); ok || !env.Same(x.Mail, api.Mail{}) || len(x.Marks) != 0 || x.Good != 0 {
		t.Errorf("File(%d) = %v, %v, want an empty File, false", id, x, ok)
	}
}

// wantGone: a mail is nowhere.
func wantGone(t *testing.T, s *store.Store, id int) {
	t.Helper()
	if got := s.Where(id); got != 0 {
		t.Errorf("Where(%d) = %q, want 0", id, got)
	}
	for _, q := range []byte("iadhc") {
		if slices.Contains(s.List(q), id) {
			t.Errorf("List(%q) = %v, with %d, which is nowhere", q, s.List(q), id)
		}
	}
	wantNoFile(t, s, id)
}

// wantLists: what is in i, a, d, h and c.
func wantLists(t *testing.T, s *store.Store, want ...[]int) {
	t.Helper()
	for i, q := range []byte("iadhc") {
		if got := s.List(q); !slices.Equal(got, want[i]) {
			t.Errorf("List(%q) = %v, want %v", q, got, want[i])
		}
	}
}

func wantErr(t *testing.T, what string, got, want api.Errno) {
	t.Helper()
	if got != want {
		t.Errorf("%s = %d, want %d", what, got, want)
	}
}

// wantNot: a Commit or a Bounce that keeps nothing.
func wantNot(t *testing.T, do func(api.Mail) (int, api.Errno), m api.Mail, want api.Errno) {
	t.Helper()
	if id, e := do(m); id != 0 || e != want {
		t.Errorf("of %v: %d, %d, want 0, %d", m, id, e, want)
	}
}

// powerOff takes the power away, not by a call of a Store.
func powerOff(t *testing.T, f *fs.FS) {
	t.Helper()
	f.Fuse(0)
	wantErr(t, "a DirSync behind the fuse", f.DirSync(), api.ErrDown)
}

// The chapter's words: names of mails' files, of any byte and of numbers at
// their ends.
func TestName(t *testing.T) {
	ids := []int{1, 2, 9, 10, 12, 99999999, 100000000, 123456789, api.MaxID - 1, api.MaxID}
	wrong := []int{
		0, -1, -9, -api.MaxID, -api.MaxID - 1, -api.MaxID - 2, api.MaxID + 1, api.MaxID + 2, 1999999999,
		1 << 32, 1<<32 + 1, math.MinInt, math.MinInt + 1, math.MaxInt, math.MaxInt - 1,
	}
	for b := range 256 {
		queue := byte(b)
		for _, id := range ids {
			want := ""
			if strings.IndexByte("iadhct", queue) >= 0 {
				want = name(queue, id)
			}
			if got := store.Name(queue, id); got != want {
				t.Errorf("Name(%q, %d) = %q, want %q", queue, id, got, want)
			}
		}
		for _, id := range wrong {
			if got := store.Name(queue, id); got != "" {
				t.Errorf("Name(%q, %d) = %q, want nothing", queue, id, got)
			}
		}
	}
	for queue, want := range map[byte]string{'i': "i-000000001", 'a': "a-000000001", 'd': "d-000000001", 'h': "h-000000001", 'c': "c-000000001", 't': "t-000000001"} {
		if got := store.Name(queue, 1); got != want {
			t.Errorf("Name(%q, 1) = %q, want %q", queue, got, want)
		}
	}
	if got := store.Name('d', api.MaxID); got != "d-999999999" {
		t.Errorf("Name('d', MaxID) = %q", got)
	}
}

// A nil *Store.
func TestNil(t *testing.T) {
	var s *store.Store
	wantNot(t, s.Commit, mail(1), api.ErrArg)
	wantNot(t, s.Bounce, withParent(mail(1), 1), api.ErrArg)
	wantErr(t, "Mark", s.Mark(1, api.Mark{Kind: api.Try}), api.ErrArg)
	wantErr(t, "Move", s.Move(1, 'a'), api.ErrArg)
	wantErr(t, "Drop", s.Drop(1), api.ErrArg)
	wantGone(t, s, 1)
}

// A Store that Open did not make does not panic, and has nothing.
func TestZero(t *testing.T) {
	s := new(store.Store)
	for _, m := range []api.Mail{mail(1), withParent(mail(1), 1)} {
		if id, e := s.Commit(m); id != 0 || e == api.OK {
			t.Errorf("Commit = %d, %d", id, e)
		}
		if id, e := s.Bounce(m); id != 0 || e == api.OK {
			t.Errorf("Bounce = %d, %d", id, e)
		}
	}
	for i, e := range []api.Errno{s.Mark(1, api.Mark{Kind: api.Try}), s.Move(1, 'a'), s.Drop(1)} {
		if e == api.OK {
			t.Errorf("call %d: OK", i)
		}
	}
	wantGone(t, s, 1)
}

// The chapter's example, and one of a mail in each of the other queues.
func TestExample(t *testing.T) {
	for _, to := range []byte("iadh") {
		f, s := fresh(t, 1)
		must(t, s.Move(1, to))
		f.Crash(0, 0)
		s = open(t, f)
		wantMail(t, s, to, withID(mail(1), 1))
		wantID(t, s, mail(2), 17)
	}
}

// P14.2: a good mail is kept in i, with its ID in place of what it came with;
// chapter 13's numbers go on.
func TestCommit(t *testing.T) {
	f := fs.New(plenty)
	s := open(t, f)
	for i, id := range []int{0, 1, -1, 7, api.MaxID, api.MaxID + 1, math.MinInt, math.MaxInt} {
		wantID(t, s, withID(mail(i), id), i+1)
		wantMail(t, s, 'i', withID(mail(i), i+1))
	}
	want := files{"next-000000016": nil}
	for i := range 8 {
		want[name('i', i+1)] = record(withID(mail(i), i+1))
	}
	wantFiles(t, f, want)
	for id := 9; id <= 40; id++ {
		wantID(t, s, mail(3), id)
	}
	wantLists(t, s, upTo(40), nil, nil, nil, nil)
}

// upTo are the numbers from 1 to n.
func upTo(n int) []int {
	var list []int
	for id := 1; id <= n; id++ {
		list = append(list, id)
	}
	return list
}

// P14.2: mails at the ends of what is good.
func TestCommitEnds(t *testing.T) {
	_, s := fresh(t, 0)
	rcpts := slices.Repeat([]string{"c@d"}, api.MaxRcpts)
	for i, m := range []api.Mail{
		{Rcpts: []string{"c@d"}},
		{Born: api.MaxTime, From: "a@b", Rcpts: rcpts, Body: []byte(strings.Repeat("0123456789abcde\n", api.MaxBody/16))},
		{Rcpts: rcpts[:1], Body: []byte{}},
		{Rcpts: rcpts[:1], Body: []byte("\n")},
	} {
		wantID(t, s, m, i+1)
		wantMail(t, s, 'i', withID(m, i+1))
	}
}

// wrongMails are not good, each in one way, and each with any ID.
func wrongMails() []api.Mail {
	var list []api.Mail
	for _, wrong := range []func(*api.Mail){
		func(m *api.Mail) { m.Rcpts = nil },
		func(m *api.Mail) { m.Rcpts = []string{""} },
		func(m *api.Mail) { m.Rcpts = []string{"c@D"} },
		func(m *api.Mail) { m.Rcpts = slices.Repeat([]string{"c@d"}, api.MaxRcpts+1) },
		func(m *api.Mail) { m.From = "a" },
		func(m *api.Mail) { m.From = "a@B" },
		func(m *api.Mail) { m.Born = -1 },
		func(m *api.Mail) { m.Born = api.MaxTime + 1 },
		func(m *api.Mail) { m.Body = []byte("x") },
		func(m *api.Mail) { m.Body = []byte("\r\n") },
		func(m *api.Mail) { m.Body = []byte(strings.Repeat("\n", api.MaxBody+1)) },
	} {
		for _, id := range []int{0, 3, api.MaxID} {
			m := withID(mail(1), id)
			wrong(&m)
			list = append(list, m)
		}
	}
	return list
}

// P14.2: of what is not good, or has a Parent, nothing is kept, no number is
// given and nothing is written.
func TestCommitWrong(t *testing.T) {
	f, s := fresh(t, 2)
	before := contents(t, f)
	f.Fuse(0)
	for _, m := range wrongMails() {
		wantNot(t, s.Commit, m, api.ErrArg)
	}
	for _, parent := range []int{1, 2, 3, 99, -1, api.MaxID - 1, api.MaxID, api.MaxID + 1, math.MinInt, math.MaxInt} {
		wantNot(t, s.Commit, withParent(mail(1), parent), api.ErrArg)
		wantNot(t, s.Commit, withID(withParent(mail(1), parent), api.MaxID), api.ErrArg)
	}
	if f.Down() {
		t.Error("a wrong Commit writes")
	}
	wantFiles(t, f, before)
	f.Crash(0, 0)
	wantID(t, s, mail(1), 3)
}

// P14.2: a Bounce takes its Parent's place, in each queue where that goes on.
func TestBounce(t *testing.T) {
	for _, queue := range []byte("iad") {
		for _, id := range []int{0, 1, 2, -7, api.MaxID, math.MaxInt} {
			f, s := fresh(t, 2)
			must(t, s.Move(1, queue), s.Move(2, queue))
			m := withID(withParent(mail(9), 2), id)
			m.From = ""
			if got, e := s.Bounce(m); got != 3 || e != api.OK {
				t.Fatalf("Bounce = %d, %d", got, e)
			}
			for range 2 {
				wantMail(t, s, 'i', withID(m, 3))
				wantMail(t, s, queue, withID(mail(1), 1))
				wantGone(t, s, 2)
				if queue == 'i' {
					wantLists(t, s, []int{1, 3}, nil, nil, nil, nil)
				}
				wantNot(t, s.Bounce, m, api.ErrArg)
				f.Crash(0, 0)
				s = open(t, f)
			}
		}
	}
}

// P14.2: a Parent that is in h, in c, or nowhere, and mails that are not good.
func TestBounceWrong(t *testing.T) {
	f := disk(t, files{name('i', 1): nil, name('d', 3): record(withID(mail(3), 3)), "next-000000016": nil})
	s := open(t, f)
	wantID(t, s, mail(2), 17)
	must(t, s.Move(17, 'h'))
	before := contents(t, f)
	f.Fuse(0)
	for _, parent := range []int{0, 1, 2, 4, 16, 17, 18, -1, api.MaxID - 1, api.MaxID, api.MaxID + 1, math.MinInt, math.MaxInt} {
		wantNot(t, s.Bounce, withParent(mail(1), parent), api.ErrArg)
	}
	for _, m := range wrongMails() {
		wantNot(t, s.Bounce, m, api.ErrArg)
		wantNot(t, s.Bounce, withParent(m, 3), api.ErrArg)
	}
	if f.Down() {
		t.Error("a wrong Bounce writes")
	}
	wantFiles(t, f, before)
	wantLists(t, s, nil, nil, []int{3}, []int{17}, []int{1})
	f.Crash(0, 0)
	if id, e := s.Bounce(withParent(mail(1), 3)); id != 18 || e != api.OK {
		t.Errorf("Bounce = %d, %d", id, e)
	}
	wantLists(t, s, []int{18}, nil, nil, []int{17}, []int{1})
}

// P14.2: a Bounce of a Bounce.
func TestBounceAgain(t *testing.T) {
	f, s := fresh(t, 1)
	for id := 2; id <= 40; id++ {
		if got, e := s.Bounce(withParent(mail(id), id-1)); got != id || e != api.OK {
			t.Fatalf("Bounce = %d, %d, want %d", got, e, id)
		}
		wantLists(t, s, []int{id}, nil, nil, nil, nil)
	}
	wantFiles(t, f, files{"next-000000048": nil, name('i', 40): record(withID(withParent(mail(40), 39), 40))})
}

// P14.2: a disk without room for bytes: nothing is in i, nothing in t, its
// Parent stays; with room it is done.
func TestNoBytes(t *testing.T) {
	for _, bounce := range []bool{false, true} {
		f, s := fresh(t, 1)
		do, m := s.Commit, mail(4)
		if bounce {
			do, m = s.Bounce, withParent(mail(4), 1)
		}
		before := contents(t, f)
		used, need := f.Used(), len(record(withID(m, 2)))
		for i, room := range []int{0, 1, used - 1, used, used + 1, used + need - 1} {
			f.Room(room)
			wantNot(t, do, m, api.ErrFull)
			wantFiles(t, f, before)
			wantLists(t, s, []int{1}, nil, nil, nil, nil)
			wantMail(t, s, 'i', withID(mail(1), 1))
			wantGone(t, s, 2+i)
		}
		f.Room(used + need)
		if id, e := do(m); id != 8 || e != api.OK {
			t.Errorf("bounce %t, with room: %d, %d", bounce, id, e)
		}
		wantMail(t, s, 'i', withID(m, 8))
		f.Crash(0, 0)
		wantMail(t, open(t, f), 'i', withID(m, 8))
	}
}

// P14.2: a disk without room for one more file, within a batch of numbers and
// ahead of one.
func TestNoFiles(t *testing.T) {
	for _, start := range []int{1, 15, 16, 17} {
		f, s := fresh(t, start)
		for n := len(f.List()); n < api.MaxFiles; n++ {
			must(t, f.Create(fmt.Sprint("else", n)))
		}
		before := contents(t, f)
		for range 3 {
			wantNot(t, s.Commit, mail(1), api.ErrFull)
			wantNot(t, s.Bounce, withParent(mail(1), 1), api.ErrFull)
			wantFiles(t, f, before)
			wantLists(t, s, upTo(start), nil, nil, nil, nil)
		}
		must(t, f.Unlink("else200"), f.Unlink("else201"))
		id, e := s.Commit(mail(1))
		if e != api.OK || id <= start {
			t.Errorf("from %d, with room: %d, %d", start, id, e)
		}
		wantMail(t, s, 'i', withID(mail(1), id))
		if slices.ContainsFunc(f.List(), func(name string) bool { return strings.HasPrefix(name, "t") }) {
			t.Error("something is left in t")
		}
	}
}

// P14.2: the last number, and none behind it.
func TestMaxID(t *testing.T) {
	f := disk(t, files{"next-999999998": nil})
	s := open(t, f)
	wantID(t, s, mail(1), api.MaxID)
	wantMail(t, s, 'i', withID(mail(1), api.MaxID))
	before := contents(t, f)
	wantNot(t, s.Commit, mail(1), api.ErrFull)
	wantNot(t, s.Commit, api.Mail{}, api.ErrArg)
	wantFiles(t, f, before)
	must(t, s.Mark(api.MaxID, api.Mark{Kind: api.Try}), s.Move(api.MaxID, 'd'))
	s = open(t, f)
	wantMail(t, s, 'd', withID(mail(1), api.MaxID), api.Mark{Kind: api.Try})
	// No mail's Parent is MaxID.
	wantNot(t, s.Bounce, withParent(mail(1), api.MaxID), api.ErrArg)
	must(t, s.Drop(api.MaxID))
	wantGone(t, s, api.MaxID)
}

// P14.2: numbers that somebody set back make no mail whose Parent is not below
// its ID.
func TestNumbersSetBack(t *testing.T) {
	f := disk(t, files{name('i', 50): record(withID(mail(1), 50))})
	s := open(t, f)
	wantNot(t, s.Bounce, withParent(mail(2), 50), api.ErrArg)
	wantLists(t, s, []int{50}, nil, nil, nil, nil)
	wantMail(t, s, 'i', withID(mail(1), 50))
}

// P14.3: marks stand in order, in each queue.
func TestMark(t *testing.T) {
	for _, queue := range []byte("iadh") {
		f, s := fresh(t, 3)
		must(t, s.Move(2, queue))
		list := marks(40)
		for i, k := range list {
			must(t, s.Mark(2, k))
			wantMail(t, s, queue, withID(mail(2), 2), list[:i+1]...)
		}
		wantMail(t, s, 'i', withID(mail(1), 1))
		wantMail(t, s, 'i', withID(mail(3), 3))
		must(t, s.Mark(3, list[5]))
		f.Crash(0, 0)
		s = open(t, f)
		wantMail(t, s, queue, withID(mail(2), 2), list...)
		wantMail(t, s, 'i', withID(mail(3), 3), list[5])
	}
}

// wrongMarks are not good, each in one way.
var wrongMarks = []api.Mark{
	{}, {Kind: -1}, {Kind: 6}, {Kind: 7}, {Kind: math.MaxInt}, {Kind: math.MinInt},
	{Kind: api.Try, Rcpt: -1}, {Kind: api.Try, Rcpt: api.MaxRcpts}, {Kind: api.Try, Rcpt: math.MaxInt},
	{Kind: api.Defer, N: -1}, {Kind: api.Defer, N: api.MaxTime + 1}, {Kind: api.Defer, N: math.MinInt},
}

// P14.3: marks that are not good, of mails that are there and of none, change
// nothing; ones at the ends of what is good do.
func TestMarkWrong(t *testing.T) {
	f, s := fresh(t, 1)
	before := contents(t, f)
	f.Fuse(0)
	for _, k := range wrongMarks {
		for _, id := range []int{1, 2, 0, -1, math.MaxInt} {
			wantErr(t, fmt.Sprint("Mark of ", k), s.Mark(id, k), api.ErrArg)
		}
	}
	if f.Down() {
		t.Error("a wrong Mark writes")
	}
	wantFiles(t, f, before)
	f.Crash(0, 0)
	list := []api.Mark{{Kind: api.Try}, {Kind: api.Crash, Rcpt: api.MaxRcpts - 1, N: api.MaxTime}}
	must(t, s.Mark(1, list[0]), s.Mark(1, list[1]))
	wantMail(t, s, 'i', withID(mail(1), 1), list...)
}

// mixed is a Store of mail 1 in i, 2 in a, 3 in d, 4 in h and 5 in c, and 6
// that was Dropped.
func mixed(t *testing.T) (*fs.FS, *store.Store) {
	t.Helper()
	have := files{"next-000000006": nil, name('c', 5): []byte("spoilt")}
	for i, queue := range []byte("iadh") {
		have[name(queue, i+1)] = file(withID(mail(i+1), i+1), marks(i)...)
	}
	have[name('i', 6)] = record(withID(mail(6), 6))
	f := disk(t, have)
	s := open(t, f)
	must(t, s.Drop(6))
	return f, s
}

// wantMixed: mixed is as it was.
func wantMixed(t *testing.T, s *store.Store) {
	t.Helper()
	for i, queue := range []byte("iadh") {
		wantMail(t, s, queue, withID(mail(i+1), i+1), marks(i)...)
	}
	wantLists(t, s, []int{1}, []int{2}, []int{3}, []int{4}, []int{5})
	wantNoFile(t, s, 5)
	if s.Where(5) != 'c' {
		t.Errorf("Where(5) = %q", s.Where(5))
	}
	wantGone(t, s, 6)
}

// nobodys are IDs of mails that are nowhere in mixed, or in c.
var nobodys = []int{0, 5, 6, 7, 17, -1, -2, api.MaxID, api.MaxID + 1, 1 << 32, 1<<32 + 1, math.MinInt, math.MaxInt}

// P14.3: mails that are nowhere, and one in c: of each call ErrNone, and
// nothing is written.
func TestNone(t *testing.T) {
	f, s := mixed(t)
	before := contents(t, f)
	f.Fuse(0)
	for _, id := range nobodys {
		wantErr(t, fmt.Sprint("Mark of ", id), s.Mark(id, api.Mark{Kind: api.Try}), api.ErrNone)
		wantErr(t, fmt.Sprint("Drop of ", id), s.Drop(id), api.ErrNone)
		for _, to := range []byte("iadh") {
			wantErr(t, fmt.Sprint("Move of ", id), s.Move(id, to), api.ErrNone)
		}
	}
	if f.Down() {
		t.Error("ErrNone: something is written")
	}
	wantFiles(t, f, before)
	wantMixed(t, s)
}

// P14.3: from each queue to each, and to where it is, which writes nothing.
func TestMove(t *testing.T) {
	for _, from := range []byte("iadh") {
		for _, to := range []byte("iadh") {
			f, s := fresh(t, 3)
			must(t, s.Mark(2, marks(1)[0]), s.Move(2, from))
			before := contents(t, f)
			if from == to {
				f.Fuse(0)
			}
			for range 2 {
				must(t, s.Move(2, to))
				f.Fuse(0)
			}
			if f.Down() {
				t.Error("a Move to where it is writes")
			}
			want := maps.Clone(before)
			delete(want, name(from, 2))
			want[name(to, 2)] = before[name(from, 2)]
			wantFiles(t, f, want)
			for range 2 {
				wantMail(t, s, to, withID(mail(2), 2), marks(1)...)
				wantMail(t, s, 'i', withID(mail(1), 1))
				wantMail(t, s, 'i', withID(mail(3), 3))
				f.Crash(0, 0)
				s = open(t, f)
			}
			must(t, s.Mark(2, marks(2)[1]))
			wantMail(t, s, to, withID(mail(2), 2), marks(2)...)
		}
	}
}

// P14.3: to each byte that is none of the four, of mails that are there and of
// none.
func TestMoveWrong(t *testing.T) {
	f, s := mixed(t)
	before := contents(t, f)
	f.Fuse(0)
	for b := range 256 {
		to := byte(b)
		if strings.IndexByte("iadh", to) >= 0 {
			continue
		}
		for _, id := range append([]int{1, 2, 3, 4}, nobodys...) {
			wantErr(t, fmt.Sprintf("Move(%d, %q)", id, to), s.Move(id, to), api.ErrArg)
		}
	}
	if f.Down() {
		t.Error("a wrong Move writes")
	}
	wantFiles(t, f, before)
	wantMixed(t, s)
}

// P14.3: a mail of each queue is Dropped, once.
func TestDrop(t *testing.T) {
	for id := 1; id <= 4; id++ {
		f, s := mixed(t)
		want := contents(t, f)
		delete(want, name("iadh"[id-1], id))
		must(t, s.Drop(id))
		wantFiles(t, f, want)
		for range 2 {
			wantGone(t, s, id)
			wantErr(t, "Drop again", s.Drop(id), api.ErrNone)
			wantErr(t, "Mark behind Drop", s.Mark(id, api.Mark{Kind: api.Try}), api.ErrNone)
			wantErr(t, "Move behind Drop", s.Move(id, 'a'), api.ErrNone)
			f.Crash(0, 0)
			s = open(t, f)
		}
		wantFiles(t, f, want)
	}
}

// P14.3: a disk that is full: a Mark writes nothing, a Move and a Drop need no
// room, and make some.
func TestFull(t *testing.T) {
	f, s := mixed(t)
	used := f.Used()
	before := contents(t, f)
	for _, room := range []int{0, used, used + 27} {
		f.Room(room)
		for id := 1; id <= 4; id++ {
			wantErr(t, "Mark", s.Mark(id, api.Mark{Kind: api.Try}), api.ErrFull)
			wantErr(t, "Mark", s.Mark(id, api.Mark{}), api.ErrArg)
		}
		wantErr(t, "Mark", s.Mark(5, api.Mark{Kind: api.Try}), api.ErrNone)
		wantErr(t, "Mark", s.Mark(6, api.Mark{Kind: api.Try}), api.ErrNone)
		wantFiles(t, f, before)
		wantMixed(t, s)
	}
	must(t, s.Move(1, 'h'), s.Move(4, 'a'))
	wantErr(t, "Mark", s.Mark(1, api.Mark{Kind: api.Try}), api.ErrFull)
	f.Room(used + 28)
	must(t, s.Mark(1, api.Mark{Kind: api.Try}))
	wantErr(t, "Mark", s.Mark(4, api.Mark{Kind: api.Try}), api.ErrFull)
	must(t, s.Drop(2))
	must(t, s.Mark(4, api.Mark{Kind: api.Try}))
	f.Crash(0, 0)
	s = open(t, f)
	wantLists(t, s, nil, []int{4}, []int{3}, []int{1}, []int{5})
	wantMail(t, s, 'h', withID(mail(1), 1), api.Mark{Kind: api.Try})
	wantMail(t, s, 'a', withID(mail(4), 4), append(marks(3), api.Mark{Kind: api.Try})...)
}

// P14.4: each queue, in the order of IDs and not of their coming; bytes that
// are no queue have nothing.
func TestList(t *testing.T) {
	_, s := fresh(t, 60)
	want := map[byte][]int{}
	for i := range 60 {
		id := 1 + i*37%60
		queue := "iadh"[id*7%4]
		must(t, s.Move(id, queue))
	}
	for id := 1; id <= 60; id++ {
		queue := "iadh"[id*7%4]
		want[queue] = append(want[queue], id)
		if s.Where(id) != queue {
			t.Errorf("Where(%d) = %q, want %q", id, s.Where(id), queue)
		}
	}
	for b := range 256 {
		for range 3 {
			if got := s.List(byte(b)); !slices.Equal(got, want[byte(b)]) {
				t.Errorf("List(%q) = %v, want %v", byte(b), got, want[byte(b)])
			}
		}
	}
	for _, id := range []int{0, 61, -1, api.MaxID, math.MinInt, math.MaxInt} {
		wantGone(t, s, id)
	}
}

// P14.4: what one asks writes nothing.
func TestAskingWritesNothing(t *testing.T) {
	f, s := mixed(t)
	before := contents(t, f)
	f.Fuse(0)
	wantMixed(t, s)
	if f.Down() || f.Loose() != 0 {
		t.Errorf("Down() = %t, Loose() = %d", f.Down(), f.Loose())
	}
	wantFiles(t, f, before)
}

// Behind the power's end, however it went: ErrDown, but ErrArg goes first;
// what is asked goes on, but File. So it is behind a Crash too, till it is
// opened anew.
func TestDown(t *testing.T) {
	for way, off := range []func(*fs.FS, *store.Store) api.Errno{
		func(f *fs.FS, s *store.Store) api.Errno { return f.DirSync() },
		func(f *fs.FS, s *store.Store) api.Errno { _, e := s.Commit(mail(1)); return e },
		func(f *fs.FS, s *store.Store) api.Errno { _, e := s.Bounce(withParent(mail(1), 2)); return e },
		func(f *fs.FS, s *store.Store) api.Errno { return s.Mark(1, marks(1)[0]) },
		func(f *fs.FS, s *store.Store) api.Errno { return s.Move(1, 'a') },
		func(f *fs.FS, s *store.Store) api.Errno { return s.Drop(1) },
	} {
		f, s := mixed(t)
		before := contents(t, f)
		f.Fuse(0)
		wantErr(t, fmt.Sprint("way ", way), off(f, s), api.ErrDown)
		for crashed := range 3 {
			wantDown(t, s)
			if t.Failed() {
				t.Fatalf("way %d, %d crashes", way, crashed)
			}
			f.Crash(9, 9)
		}
		wantFiles(t, f, before)
		s = open(t, f)
		wantMixed(t, s)
		must(t, s.Move(1, 'a'), s.Drop(2))
		wantID(t, s, mail(7), 7)
	}
}

// Each of the calls that write knows of the power's end by its own ErrDown,
// even if it was no write of its own that the power went at, and knows of it
// behind a Crash.
func TestToldDown(t *testing.T) {
	for way, told := range []func(*store.Store) api.Errno{
		func(s *store.Store) api.Errno { _, e := s.Commit(mail(1)); return e },
		func(s *store.Store) api.Errno { _, e := s.Bounce(withParent(mail(1), 2)); return e },
		func(s *store.Store) api.Errno { return s.Mark(1, marks(1)[0]) },
		func(s *store.Store) api.Errno { return s.Mark(77, marks(1)[0]) },
		func(s *store.Store) api.Errno { return s.Move(1, 'a') },
		func(s *store.Store) api.Errno { return s.Move(1, 'i') },
		func(s *store.Store) api.Errno { return s.Move(77, 'a') },
		func(s *store.Store) api.Errno { return s.Drop(1) },
		func(s *store.Store) api.Errno { return s.Drop(77) },
	} {
		f, s := mixed(t)
		before := contents(t, f)
		powerOff(t, f)
		wantErr(t, fmt.Sprint("way ", way), told(s), api.ErrDown)
		f.Crash(9, 9)
		wantDown(t, s)
		wantFiles(t, f, before)
		wantMixed(t, open(t, f))
	}
}

// wantDown: a mixed Store without power.
func wantDown(t *testing.T, s *store.Store) {
	t.Helper()
	for id := -1; id < 20; id++ {
		wantErr(t, "Mark", s.Mark(id, marks(1)[0]), api.ErrDown)
		wantErr(t, "Drop", s.Drop(id), api.ErrDown)
		for _, to := range []byte("iadh") {
			wantErr(t, "Move", s.Move(id, to), api.ErrDown)
		}
		wantNoFile(t, s, id)
		wantErr(t, "Mark", s.Mark(id, api.Mark{}), api.ErrArg)
		for _, to := range []byte("ctx\x00") {
			wantErr(t, "Move", s.Move(id, to), api.ErrArg)
		}
		wantNot(t, s.Commit, withParent(mail(1), max(id, 1)), api.ErrArg)
		want := byte(0)
		if id >= 1 && id <= 5 {
			want = "iadhc"[id-1]
		}
		if got := s.Where(id); got != want {
			t.Errorf("Where(%d) = %q, want %q", id, got, want)
		}
		if strings.IndexByte("iad", want) >= 0 {
			wantNot(t, s.Bounce, withParent(mail(1), id), api.ErrDown)
		} else {
			wantNot(t, s.Bounce, withParent(mail(1), id), api.ErrArg)
		}
	}
	wantNot(t, s.Commit, mail(1), api.ErrDown)
	wantNot(t, s.Commit, api.Mail{}, api.ErrArg)
	wantNot(t, s.Bounce, withParent(api.Mail{}, 1), api.ErrArg)
	wantLists(t, s, []int{1}, []int{2}, []int{3}, []int{4}, []int{5})
}

// The power goes when a name in t is Unlinked behind ErrFull: that was first.
func TestFullThenDown(t *testing.T) {
	f, s := fresh(t, 1)
	f.Room(f.Used())
	f.Fuse(1)
	wantNot(t, s.Commit, mail(1), api.ErrFull)
	if !f.Down() {
		t.Error("the power is there")
	}
	for range 2 {
		wantNot(t, s.Commit, mail(1), api.ErrDown)
		wantErr(t, "Drop", s.Drop(1), api.ErrDown)
		wantLists(t, s, []int{1}, nil, nil, nil, nil)
		wantNoFile(t, s, 1)
		f.Crash(9, 9)
	}
	s = open(t, f)
	wantFiles(t, f, files{"next-000000016": nil, name('i', 1): record(withID(mail(1), 1))})
	wantMail(t, s, 'i', withID(mail(1), 1))
}

// R4: what is handed in is not changed and not kept.
func TestHandedIn(t *testing.T) {
	f, s := fresh(t, 1)
	for _, parent := range []int{0, 1} {
		rcpts := make([]string, 1, 8)
		rcpts[0] = "c@d"
		body := make([]byte, 3, 500)
		copy(body, "hi\n")
		m := api.Mail{ID: 5, Parent: parent, From: "a@b", Rcpts: rcpts, Body: body}
		do := s.Commit
		if parent > 0 {
			do = s.Bounce
		}
		id, e := do(m)
		must(t, e)
		if !slices.Equal(rcpts[:8], append([]string{"c@d"}, make([]string, 7)...)) || !bytes.Equal(body[:500], append([]byte("hi\n"), make([]byte, 497)...)) {
			t.Error("what was handed in is another")
		}
		rcpts[0], body[0] = "x@y", 'X'
		m.Rcpts, m.Body = []string{"c@d"}, []byte("hi\n")
		wantMail(t, s, 'i', withID(m, id))
		wantMail(t, open(t, f), 'i', withID(m, id))
	}
}

// R4: what is answered is new each time.
func TestAnswered(t *testing.T) {
	_, s := mixed(t)
	for range 3 {
		x, ok := s.File(3)
		if !ok || len(x.Marks) != 2 {
			t.Fatalf("File(3) = %v, %t", x, ok)
		}
		clear(x.Mail.Rcpts[:cap(x.Mail.Rcpts)])
		clear(x.Mail.Body[:cap(x.Mail.Body)])
		clear(x.Marks[:cap(x.Marks)])
		for _, q := range []byte("iadhc") {
			list := s.List(q)
			clear(list[:cap(list)])
		}
		wantMixed(t, s)
	}
}

// Two disks, one Store each: none knows of the other.
func TestTwoDisks(t *testing.T) {
	f, a := fresh(t, 3)
	g, b := fresh(t, 2)
	must(t, a.Move(1, 'a'), b.Move(1, 'h'), a.Drop(2), b.Mark(2, marks(1)[0]))
	wantID(t, a, mail(9), 4)
	wantID(t, b, mail(8), 3)
	powerOff(t, g)
	must(t, a.Mark(1, marks(2)[1]))
	wantNot(t, b.Commit, mail(1), api.ErrDown)
	wantID(t, a, mail(7), 5)
	g.Crash(0, 0)
	b = open(t, g)
	for range 2 {
		wantLists(t, a, []int{3, 4, 5}, []int{1}, nil, nil, nil)
		wantLists(t, b, []int{2, 3}, nil, nil, []int{1}, nil)
		wantMail(t, a, 'a', withID(mail(1), 1), marks(2)[1])
		wantMail(t, b, 'h', withID(mail(1), 1))
		wantMail(t, b, 'i', withID(mail(2), 2), marks(1)[0])
		a, b = open(t, f), open(t, g)
	}
}

// Files that are none of a Store's are let alone.
func TestElse(t *testing.T) {
	f, s := fresh(t, 1)
	must(t, f.Create("else"), f.Append("else", []byte("x")))
	for i := range 20 {
		wantID(t, s, mail(i), 2+i)
	}
	must(t, s.Move(3, 'a'), s.Drop(4), s.Mark(5, marks(1)[0]))
	b, e := f.Read("else")
	if e != api.OK || string(b) != "x" {
		t.Errorf("Read = %q, %d", b, e)
	}
	f.Crash(0, 0)
	open(t, f)
	if b, e := f.Read("else"); e != api.OK || len(b) != 0 {
		t.Errorf("a Store made bytes sure of a file that is not its own: %q, %d", b, e)
	}
}
