package store_test

import (
	"fmt"
	"maps"
	"slices"
	"strings"
	"testing"

	"pillarbox/api"
	"pillarbox/env"
	"pillarbox/fs"
	"pillarbox/store"
)

// entry is what is told of a mail: its queue, and what its file says.
type entry struct {
	queue byte
	mail  api.Mail
	marks []api.Mark
}

// world is all mails that are there, by IDs.
type world map[int]entry

func (w world) same(v world) bool {
	return maps.EqualFunc(w, v, func(a, b entry) bool {
		return a.queue == b.queue && env.Same(a.mail, b.mail) && slices.Equal(a.marks, b.marks)
	})
}

func (w world) String() string {
	var s []string
	for _, id := range slices.Sorted(maps.Keys(w)) {
		s = append(s, fmt.Sprintf("%c %d from %d: %v", w[id].queue, id, w[id].mail.Parent, w[id].marks))
	}
	return strings.Join(s, "; ")
}

// with is the world when one mail has become another.
func (w world) with(id int, e entry) world {
	v := maps.Clone(w)
	v[id] = e
	return v
}

func (w world) without(id int) world {
	v := maps.Clone(w)
	delete(v, id)
	return v
}

// seen is the world that a Store tells of.
func seen(t *testing.T, s *store.Store) world {
	t.Helper()
	w := world{}
	for _, queue := range []byte("iadhc") {
		for _, id := range s.List(queue) {
			x, ok := s.File(id)
			if old, there := w[id]; there || ok != (queue != 'c') || s.Where(id) != queue {
				t.Fatalf("%d is in %q and in %q: File %t, Where %q", id, old.queue, queue, ok, s.Where(id))
			}
			w[id] = entry{queue, x.Mail, x.Marks}
		}
	}
	return w
}

// deed is a call that changes something.
type deed struct {
	what  string
	do    func(*store.Store) (int, api.Errno)
	after func(w world, id int) world // id: of the mail that it makes
	needs int                         // bytes
}

func commit(m api.Mail) deed {
	return deed{fmt.Sprint("Commit ", m.Born), func(s *store.Store) (int, api.Errno) { return s.Commit(m) },
		func(w world, id int) world { return w.with(id, entry{'i', withID(m, id), nil}) }, len(record(m))}
}

func bounce(m api.Mail) deed {
	return deed{fmt.Sprint("Bounce of ", m.Parent), func(s *store.Store) (int, api.Errno) { return s.Bounce(m) },
		func(w world, id int) world { return w.without(m.Parent).with(id, entry{'i', withID(m, id), nil}) }, len(record(m))}
}

func add(id int, k api.Mark) deed {
	return deed{fmt.Sprint("Mark of ", id), func(s *store.Store) (int, api.Errno) { return 0, s.Mark(id, k) },
		func(w world, _ int) world {
			e := w[id]
			e.marks = append(slices.Clone(e.marks), k)
			return w.with(id, e)
		}, 28}
}

func move(id int, to byte) deed {
	return deed{fmt.Sprintf("Move of %d to %c", id, to), func(s *store.Store) (int, api.Errno) { return 0, s.Move(id, to) },
		func(w world, _ int) world {
			e := w[id]
			e.queue = to
			return w.with(id, e)
		}, 0}
}

func drop(id int) deed {
	return deed{fmt.Sprint("Drop of ", id), func(s *store.Store) (int, api.Errno) { return 0, s.Drop(id) },
		func(w world, _ int) world { return w.without(id) }, 0}
}

// begin is a disk of four mails, and their world.
func begin(t *testing.T) (*fs.FS, world) {
	t.Helper()
	have, w := files{"next-000000004": nil}, world{}
	for i, queue := range []byte("iadh") {
		m := withID(mail(i+1), i+1)
		have[name(queue, m.ID)] = file(m, marks(i)...)
		w[m.ID] = entry{queue, m, marks(i)}
	}
	return disk(t, have), w
}

// deeds are all that may be done to begin's mails.
func deeds() []deed {
	list := []deed{commit(mail(9))}
	for id := 1; id <= 4; id++ {
		list = append(list, add(id, marks(id)[id-1]), drop(id))
		for _, to := range []byte("iadh") {
			list = append(list, move(id, to))
		}
	}
	for id := 1; id <= 3; id++ {
		list = append(list, bounce(withParent(mail(9), id)))
	}
	return list
}

// cutOff does a deed behind a fuse, and answers which worlds may be there
// behind a crash: of OK the one that it makes alone, of ErrDown the one that
// was, too.
func (d deed) cutOff(t *testing.T, f *fs.FS, s *store.Store, w world, next int) []world {
	t.Helper()
	id, e := d.do(s)
	switch {
	case e == api.OK || e == api.ErrDown && id != 0:
		if id != 0 && id != next {
			t.Fatalf("%s = %d, want %d", d.what, id, next)
		}
		return []world{d.after(w, next)}
	case e == api.ErrDown && f.Down():
		return []world{w, d.after(w, next)}
	}
	t.Fatalf("%s = %d, %d", d.what, id, e)
	return nil
}

// wantOne: what a Store tells of is one of these.
func wantOne(t *testing.T, s *store.Store, may []world) world {
	t.Helper()
	w := seen(t, s)
	if !slices.ContainsFunc(may, w.same) {
		t.Fatalf("there is %v, want one of %v", w, may)
	}
	return w
}

// opened opens a disk whose Open is cut off behind so many writes at first;
// false: it was not. Open again finds what Open found.
func opened(t *testing.T, f *fs.FS, may []world, writes, dirs, bytes int) (*store.Store, bool) {
	t.Helper()
	f.Fuse(writes)
	s, e := store.Open(f)
	if e == api.OK {
		w := wantOne(t, s, may)
		f.Crash(0, 0)
		s = open(t, f)
		wantOne(t, s, []world{w})
		return s, false
	}
	if s != nil || e != api.ErrDown {
		t.Fatalf("Open = %v, %d", s, e)
	}
	f.Crash(dirs, bytes)
	return open(t, f), true
}

// P14.5: each deed, cut off behind each write, a crash with each count of
// changes and of bytes kept, an Open that is cut off behind each of its
// writes, with another crash, and again.
func TestCrash(t *testing.T) {
	for _, d := range deeds() {
		whole := false
		for writes := 0; !whole; writes++ {
			for dirs := range 4 {
				for _, bytes := range []int{0, 1, 27, 28, 1000} {
					for again, cut := 0, true; cut; again++ {
						for more := range 3 {
							f, w := begin(t)
							s := open(t, f)
							f.Fuse(writes)
							may := d.cutOff(t, f, s, w, 5)
							whole = !f.Down()
							f.Crash(dirs, bytes)
							s, cut = opened(t, f, may, again, more, 14*more)
							got := wantOne(t, s, may)
							if id, e := s.Commit(mail(1)); e != api.OK || id < 5 || got[id].queue != 0 {
								t.Errorf("Commit = %d, %d", id, e)
							}
							if t.Failed() {
								t.Fatalf("%s, %d writes, Crash(%d, %d), Open behind %d more", d.what, writes, dirs, bytes, again)
							}
						}
					}
				}
			}
		}
	}
}

// P14.5: of a Mark that answered ErrDown each count of bytes may be kept; it
// is there whole, or not at all, and others can be added.
func TestTornMark(t *testing.T) {
	for id := 1; id <= 4; id++ {
		for writes := range 3 {
			for bytes := range 30 {
				f, w := begin(t)
				s := open(t, f)
				f.Fuse(writes)
				d := add(id, marks(5)[4])
				may := d.cutOff(t, f, s, w, 0)
				f.Crash(0, bytes)
				s = open(t, f)
				got := wantOne(t, s, may)
				if there := len(got[id].marks) == id; there != (writes == 2 || writes == 1 && bytes >= 28) {
					t.Errorf("%d writes, %d bytes kept: the mark is there: %t", writes, bytes, there)
				}
				d = add(id, marks(5)[1])
				may = d.cutOff(t, f, s, got, 0)
				f.Crash(0, 0)
				wantOne(t, open(t, f), may)
			}
		}
	}
}

// P14.5, the first two examples of the whole: a mail that was told OK is there
// behind any crash; one that was not is there whole, or not at all.
func TestCommitOutlasts(t *testing.T) {
	for writes := range 9 {
		for dirs := range 4 {
			for bytes := range 200 {
				f := fs.New(plenty)
				s := open(t, f)
				f.Fuse(writes)
				d := commit(mail(4))
				may := d.cutOff(t, f, s, world{}, 1)
				f.Crash(dirs, bytes)
				wantOne(t, open(t, f), may)
				for _, name := range f.List() {
					if name[0] == 't' {
						t.Fatalf("%q is left", name)
					}
				}
				if writes < 7 && bytes > 0 {
					break // What is renamed is sure: bytes change nothing but what is in t.
				}
			}
		}
	}
}

// row is a long row of deeds on one disk.
type row struct {
	dice
	f    *fs.FS
	s    *store.Store
	room int
	last int // the number that was given last
	may  []world
	down bool
}

// dice are numbers that look thrown, the same at each run.
type dice uint32

func (d *dice) roll(n int) int {
	*d = *d*1664525 + 1013904223
	return int(*d>>8) % n
}

// pick answers one of a world's IDs, or one of nobody.
func (r *row) pick(queues string) int {
	var list []int
	for id, e := range r.may[0] {
		if strings.IndexByte(queues, e.queue) >= 0 {
			list = append(list, id)
		}
	}
	slices.Sort(list)
	if len(list) == 0 {
		return 0
	}
	return list[r.roll(len(list))]
}

// deed throws one; false: there is no mail for it.
func (r *row) deed() (deed, bool) {
	switch n := r.roll(12); {
	case n < 3:
		return commit(mail(r.roll(50))), true
	case n < 4:
		id := r.pick("iad")
		return bounce(withParent(mail(r.roll(50)), id)), id > 0
	case n < 8:
		id := r.pick("iadh")
		return add(id, marks(9)[r.roll(9)]), id > 0
	case n < 11:
		id := r.pick("iadh")
		return move(id, "iadh"[r.roll(4)]), id > 0
	}
	id := r.pick("iadh")
	return drop(id), id > 0
}

// do does a deed, and holds what it answers against the world and the room.
func (r *row) do(t *testing.T, d deed) {
	t.Helper()
	w := r.may[0]
	// A full disk is met ahead of a fuse only where no write is before it: so
	// rows have one of them at a time.
	full := d.needs > 0 && r.f.Used()+d.needs > r.room
	makes := strings.HasPrefix(d.what, "Commit") || strings.HasPrefix(d.what, "Bounce")
	if full {
		if id, e := d.do(r.s); id != 0 || e != api.ErrFull {
			t.Fatalf("%s = %d, %d on a full disk", d.what, id, e)
		}
	} else {
		r.may = d.cutOff(t, r.f, r.s, w, r.last+1)
	}
	r.down = r.f.Down()
	if r.down {
		return
	}
	if makes {
		r.last++
	}
	wantOne(t, r.s, r.may)
}

// crash crashes, and opens anew, cut off now and then.
func (r *row) crash(t *testing.T) {
	t.Helper()
	for cut := true; cut; {
		r.f.Crash(r.roll(4), r.roll(3)*r.roll(30))
		r.room = plenty
		r.f.Room(r.room)
		writes := plenty
		if r.roll(2) == 0 {
			writes = r.roll(6)
		}
		r.s, cut = opened(t, r.f, r.may, writes, r.roll(4), r.roll(30))
	}
	r.may = []world{wantOne(t, r.s, r.may)}
	r.down, r.last = false, lastNumber(t, r.f)
}

// lastNumber is what a disk's greatest file of numbers says.
func lastNumber(t *testing.T, f *fs.FS) int {
	t.Helper()
	last := 0
	for _, name := range f.List() {
		n := 0
		if _, err := fmt.Sscanf(name, "next-%09d", &n); err == nil {
			last = max(last, n)
		}
	}
	return last
}

// P14.5: long rows of thrown deeds, with fuses, crashes and full disks, held
// against the worlds that may be there; two rows on two disks by turns.
func TestRows(t *testing.T) {
	for seed := range 100 {
		var rows [2]*row
		for i := range rows {
			f, w := begin(t)
			rows[i] = &row{dice: dice(2*seed + i), f: f, s: open(t, f), room: plenty, last: 4, may: []world{w}}
		}
		for range 160 {
			r := rows[rows[0].roll(2)]
			r.step(t)
			if t.Failed() {
				t.Fatalf("seed %d", seed)
			}
		}
	}
}

func (r *row) step(t *testing.T) {
	t.Helper()
	switch n := r.roll(40); {
	case r.down || n < 2:
		r.crash(t)
	case n < 6 && r.room == plenty:
		r.f.Fuse(r.roll(14))
	case n < 8 && len(r.may[0]) > 0:
		r.crash(t)
		r.room = r.f.Used() + r.roll(200)
		r.f.Room(r.room)
	default:
		if d, ok := r.deed(); ok {
			r.do(t, d)
		}
	}
}
