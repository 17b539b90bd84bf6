package store_test

import (
	"fmt"
	"maps"
	"strings"
	"testing"

	"pillarbox/api"
	"pillarbox/fs"
	"pillarbox/store"
)

func wantNoStore(t *testing.T, f *fs.FS, want api.Errno) {
	t.Helper()
	if s, e := store.Open(f); s != nil || e != want {
		t.Errorf("Open = %v, %d, want nil, %d", s, e, want)
	}
}

// P14.1: no disk, one without power, and one that has nothing.
func TestOpenErrors(t *testing.T) {
	wantNoStore(t, nil, api.ErrArg)
	for _, have := range []files{nil, {"t-000000001": nil}, {"a-000000001": []byte("x")}} {
		f := disk(t, have)
		powerOff(t, f)
		wantNoStore(t, f, api.ErrDown)
		f.Crash(0, 0)
		if got := contents(t, f); !got.same(have) {
			t.Errorf("a disk without power has %s, had %s", got.brief(), have.brief())
		}
		open(t, f)
	}
	f := fs.New(0)
	s := open(t, f)
	wantLists(t, s, nil, nil, nil, nil, nil)
	wantGone(t, s, 1)
	wantNot(t, s.Commit, mail(1), api.ErrFull)
	wantFiles(t, f, files{"next-000000016": nil})
}

// P14.1: names of t go, whatever they have, and those that only look so stay.
func TestOpenSweeps(t *testing.T) {
	others := files{}
	for _, name := range []string{
		"t", "t-", "t-1", "t-00000001", "t-0000000001", "t-1234567890", "t-000000000", "t-00000000x", "t-+00000001", "t--00000001", "t_000000001",
		"T-000000001", "tt-000000001", "xt-000000001", "t-000000001x", "t-t-000000001", "-000000001", "000000001", "x-000000001", "box@mx.test-000000001", "next-000000020",
	} {
		others[name] = []byte(name)
	}
	have := maps.Clone(others)
	for i, id := range []int{1, 2, 9, 10, 500, api.MaxID - 1, api.MaxID} {
		have[name('t', id)] = record(withID(mail(i), id))[:10*i]
	}
	f := disk(t, have)
	s := open(t, f)
	wantFiles(t, f, others)
	wantLists(t, s, nil, nil, nil, nil, nil)
	f.Fuse(0)
	s = open(t, f)
	if f.Down() {
		t.Error("Open writes where nothing is to be done")
	}
	f.Crash(0, 0)
	s = open(t, f)
	wantFiles(t, f, others)
	wantID(t, s, mail(1), 21)
}

// P14.1: names that only look like those of mails count for nothing.
func TestOpenElse(t *testing.T) {
	have := files{}
	for _, q := range []string{"i", "a", "d", "h", "c"} {
		for _, rest := range []string{
			"", "-", "-1", "-00000001", "-0000000001", "-000000000", "-00000000x", "-+00000001", "--00000001", "_000000001", "-000000001x", "000000001",
		} {
			have[q+rest] = []byte("no File")
		}
		have[strings.ToUpper(q)+"-000000001"] = []byte("no File")
		have["i"+q+"-000000001"] = []byte("no File")
	}
	f := disk(t, have)
	f.Fuse(0)
	s := open(t, f)
	wantLists(t, s, nil, nil, nil, nil, nil)
	for id := -1; id < 12; id++ {
		wantGone(t, s, id)
	}
	if f.Down() {
		t.Error("Open writes")
	}
	wantFiles(t, f, have)
}

// spoilt are the bytes of no File, or of one of another ID than 7.
func spoilt() [][]byte {
	good := file(withID(mail(1), 7), marks(2)...)
	turned := append([]byte(nil), good...)
	turned[30] ^= 1
	list := [][]byte{
		nil, {0}, []byte("no File"), good[:20], good[1:], append([]byte{0}, good...), turned,
		record(withID(mail(1), 7))[:len(record(withID(mail(1), 7)))-1],
		record(withID(mail(1), 0)), record(withParent(withID(mail(1), 7), 7)), laid(marks(1)[0]),
	}
	for _, id := range []int{1, 6, 8, 70, api.MaxID} {
		list = append(list, file(withID(mail(1), id)), file(withID(mail(1), id), marks(3)...))
	}
	return list
}

// P14.1: files that are no File, and those of another ID, go to c, and stay
// there as they are; in c itself and in h no less than elsewhere.
func TestOpenSpoilt(t *testing.T) {
	for i, b := range spoilt() {
		for _, queue := range []byte("iadhc") {
			sound := record(withID(mail(2), 8))
			have := files{name(queue, 7): b, name('i', 8): sound, "next-000000016": nil}
			want := files{name('c', 7): b, name('i', 8): sound, "next-000000016": nil}
			f := disk(t, have)
			for again := range 3 {
				s := open(t, f)
				wantLists(t, s, []int{8}, nil, nil, nil, []int{7})
				if s.Where(7) != 'c' {
					t.Errorf("Where(7) = %q", s.Where(7))
				}
				wantNoFile(t, s, 7)
				wantErr(t, "Mark", s.Mark(7, marks(1)[0]), api.ErrNone)
				wantErr(t, "Move", s.Move(7, 'i'), api.ErrNone)
				wantErr(t, "Drop", s.Drop(7), api.ErrNone)
				wantNot(t, s.Bounce, withParent(mail(1), 7), api.ErrArg)
				wantMail(t, s, 'i', withID(mail(2), 8))
				wantFiles(t, f, want)
				if t.Failed() {
					t.Fatalf("spoilt %d in %q, time %d", i, queue, again)
				}
				if again == 1 {
					f.Fuse(0)
				} else {
					f.Crash(0, 0)
				}
			}
			if f.Down() {
				t.Errorf("spoilt %d: Open writes where nothing is to be done", i)
			}
		}
	}
}

// P14.1: all at once, in all queues; a file in c is let alone even if it is a
// sound one.
func TestOpenAll(t *testing.T) {
	have, want := files{"next-000000099": nil}, files{"next-000000099": nil}
	lists := make([][]int, 5)
	id := 0
	for i, queue := range []byte("iadhc") {
		for _, kind := range []string{"sound", "marked", "torn", "spoilt", "other"} {
			id++
			m := withID(mail(id), id)
			b, left, in := file(m), file(m), i
			switch kind {
			case "marked":
				b, left = file(m, marks(5)...), file(m, marks(5)...)
			case "torn":
				b, left = append(file(m, marks(3)...), 1, 2, 3), file(m, marks(3)...)
			case "spoilt":
				b, left, in = []byte("spoilt"), []byte("spoilt"), 4
			case "other":
				b, left, in = file(withID(m, 77)), file(withID(m, 77)), 4
			}
			if queue == 'c' {
				left = b
			}
			have[name(queue, id)], want[name("iadhc"[in], id)] = b, left
			lists[in] = append(lists[in], id)
		}
		have[name('t', id)] = []byte("half")
	}
	f := disk(t, have)
	for range 3 {
		s := open(t, f)
		wantFiles(t, f, want)
		wantLists(t, s, lists...)
		wantMail(t, s, 'a', withID(mail(6), 6))
		wantMail(t, s, 'a', withID(mail(7), 7), marks(5)...)
		wantMail(t, s, 'a', withID(mail(8), 8), marks(3)...)
		f.Crash(0, 0)
	}
}

// torn are bytes that no good mark begins with.
func torn() [][]byte {
	var list [][]byte
	whole := laid(api.Mark{Kind: api.Defer, Rcpt: 1, N: 99})
	for n := 1; n < len(whole); n++ {
		list = append(list, whole[:n])
	}
	turned := append([]byte(nil), whole...)
	turned[27] ^= 1
	return append(list, turned, append(turned, whole...), laid(api.Mark{}), laid(api.Mark{Kind: 6}), []byte(strings.Repeat("x", 1000)))
}

// P14.1: what stands behind the Good bytes goes, and a mark that is added then
// is read.
func TestOpenTorn(t *testing.T) {
	for i, tail := range torn() {
		for n := range 3 {
			for _, queue := range []byte("iadh") {
				m, list := withID(mail(n), 7), marks(n)
				f := disk(t, files{name(queue, 7): append(file(m, list...), tail...)})
				s := open(t, f)
				wantFiles(t, f, files{name(queue, 7): file(m, list...)})
				wantMail(t, s, queue, m, list...)
				f.Crash(0, 0)
				wantFiles(t, f, files{name(queue, 7): file(m, list...)})
				s = open(t, f)
				more := append(list, marks(5)[4])
				must(t, s.Mark(7, more[n]))
				wantMail(t, s, queue, m, more...)
				f.Crash(0, 0)
				f.Fuse(0)
				s = open(t, f)
				wantMail(t, s, queue, m, more...)
				if t.Failed() {
					t.Fatalf("torn %d, %d marks, %q", i, n, queue)
				}
			}
		}
	}
}

// P14.1: more marks than a File has: those behind are torn off.
func TestOpenMaxMarks(t *testing.T) {
	m, list := withID(mail(1), 7), marks(api.MaxMarks)
	f := disk(t, files{name('d', 7): file(m, append(list, list[:3]...)...)})
	s := open(t, f)
	wantFiles(t, f, files{name('d', 7): file(m, list...)})
	wantMail(t, s, 'd', m, list...)
}

// P14.1: of a disk that is full ErrFull, and no Store, and the file that was
// to be laid anew is as it was; with room it is done.
func TestOpenFull(t *testing.T) {
	m := withID(mail(1), 7)
	have := files{name('a', 6): nil, name('d', 7): append(file(m), 1), name('t', 3): []byte("half")}
	f := disk(t, have)
	half := maps.Clone(have)
	delete(half, name('t', 3))
	delete(half, name('a', 6))
	half[name('c', 6)] = nil
	half[name('t', 7)] = nil
	need := len(file(m))
	for _, room := range []int{0, f.Used() - len("half"), f.Used() - len("half") + need - 1} {
		f.Room(room)
		wantNoStore(t, f, api.ErrFull)
		if got := contents(t, f); !got.same(half) {
			t.Errorf("room %d: %s, want %s", room, got.brief(), half.brief())
		}
	}
	f.Crash(0, 0)
	f.Room(f.Used() + need)
	s := open(t, f)
	wantFiles(t, f, files{name('c', 6): nil, name('d', 7): file(m)})
	wantMail(t, s, 'd', m)

	f = disk(t, files{name('d', 7): append(file(m), 1)})
	for n := len(f.List()); n < api.MaxFiles; n++ {
		must(t, f.Create(fmt.Sprint("else", n)))
	}
	before := contents(t, f)
	for range 2 {
		wantNoStore(t, f, api.ErrFull)
		wantFiles(t, f, before)
	}
	must(t, f.Unlink("else100"))
	wantMail(t, open(t, f), 'd', m)
}

// P14.1: a full disk hurts no Open that lays nothing anew.
func TestOpenNoRoom(t *testing.T) {
	m := withParent(withID(mail(1), 7), 3)
	f := disk(t, files{name('a', 6): nil, name('d', 7): file(m), name('t', 3): []byte("half"), name('i', 3): file(withID(mail(3), 3))})
	f.Room(0)
	s := open(t, f)
	wantLists(t, s, nil, nil, []int{7}, nil, []int{6})
}

// P14.1: a mail whose Parent still has a file: that goes, if both are in i, a
// or d; else it stays.
func TestOpenParent(t *testing.T) {
	for _, queue := range []byte("iadhc") {
		for _, old := range []byte("iadhc") {
			m, parent := withParent(withID(mail(1), 9), 4), withID(mail(2), 4)
			have := files{name(queue, 9): file(m, marks(2)...), name(old, 4): file(parent, marks(1)...), name('i', 5): file(withID(mail(5), 5))}
			want := maps.Clone(have)
			goes := strings.IndexByte("iad", queue) >= 0 && strings.IndexByte("iad", old) >= 0
			if goes {
				delete(want, name(old, 4))
			}
			f := disk(t, have)
			for range 3 {
				s := open(t, f)
				wantFiles(t, f, want)
				if queue != 'c' {
					wantMail(t, s, queue, m, marks(2)...)
				}
				if goes {
					wantGone(t, s, 4)
				} else if s.Where(4) != old {
					t.Errorf("Where(4) = %q, want %q", s.Where(4), old)
				}
				if t.Failed() {
					t.Fatalf("mail in %q, Parent in %q", queue, old)
				}
				f.Crash(0, 0)
			}
		}
	}
}

// P14.1: by IDs: of mails that are each other's Parents in a row the last is
// left, wherever they are; and of a Parent of two mails nothing.
func TestOpenParents(t *testing.T) {
	for turn := range 3 {
		have, last := files{}, files{}
		for id := 1; id <= 20; id++ {
			last = files{name("iad"[(id+turn)%3], id): file(withParent(withID(mail(id), id), id-1))}
			maps.Copy(have, last)
		}
		f := disk(t, have)
		open(t, f)
		wantFiles(t, f, last)
	}
	one, two := withParent(withID(mail(1), 8), 3), withParent(withID(mail(1), 9), 3)
	f := disk(t, files{name('a', 8): file(one), name('d', 9): file(two), name('i', 3): file(withID(mail(3), 3))})
	s := open(t, f)
	wantLists(t, s, nil, []int{8}, []int{9}, nil, nil)
	wantFiles(t, f, files{name('a', 8): file(one), name('d', 9): file(two)})
}

// P14.1: mended first, then parted: a spoilt mail takes no Parent along, and a
// spoilt Parent goes to c.
func TestOpenParentSpoilt(t *testing.T) {
	m, parent := withParent(withID(mail(1), 9), 4), withID(mail(2), 4)
	f := disk(t, files{name('i', 9): file(m)[:50], name('a', 4): file(parent)})
	s := open(t, f)
	wantLists(t, s, nil, []int{4}, nil, nil, []int{9})
	f = disk(t, files{name('i', 8): file(m), name('a', 4): file(parent)})
	s = open(t, f)
	wantLists(t, s, nil, []int{4}, nil, nil, []int{8})
	f = disk(t, files{name('i', 9): file(m), name('a', 4): file(parent)[:50]})
	s = open(t, f)
	wantLists(t, s, []int{9}, nil, nil, nil, []int{4})
	f = disk(t, files{name('i', 9): append(file(m), 1), name('a', 4): append(file(parent), 1)})
	s = open(t, f)
	wantLists(t, s, []int{9}, nil, nil, nil, nil)
	wantFiles(t, f, files{name('i', 9): file(m)})
}
