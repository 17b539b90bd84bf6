package store_test

import (
	"maps"
	"slices"
	"testing"

	"pillarbox/api"
	"pillarbox/fs"
	"pillarbox/store"
)

// write is one of a disk's writes.
type write func(*fs.FS) api.Errno

func dirSync(f *fs.FS) api.Errno { return f.DirSync() }

func create(name string) write {
	return func(f *fs.FS) api.Errno { return f.Create(name) }
}

func put(name string, b []byte) write {
	return func(f *fs.FS) api.Errno { return f.Append(name, b) }
}

func sync(name string) write {
	return func(f *fs.FS) api.Errno { return f.Sync(name) }
}

func rename(from, to string) write {
	return func(f *fs.FS) api.Errno { return f.Rename(from, to) }
}

func unlink(name string) write {
	return func(f *fs.FS) api.Errno { return f.Unlink(name) }
}

// lay are the writes by which a file is laid anew.
func lay(queue byte, id int, b []byte) []write {
	at := name('t', id)
	return []write{create(at), put(at, b), sync(at), rename(at, name(queue, id)), dirSync}
}

// call is one of a Store's, or an Open, and the writes that the chapter asks
// of it.
type call struct {
	what   string
	have   files // what the disk has ahead
	before func(*fs.FS, *store.Store)
	do     func(*store.Store) (int, api.Errno) // nil: Open
	writes []write
	// What it answers, when so many writes are done.
	want func(writes int) (int, api.Errno)
}

// ready is a disk ahead of the call.
func (c call) ready(t *testing.T) (*fs.FS, *store.Store) {
	t.Helper()
	f := disk(t, c.have)
	if c.do == nil {
		return f, nil
	}
	s := open(t, f)
	if c.before != nil {
		c.before(f, s)
	}
	return f, s
}

// done: the call, behind a fuse.
func (c call) done(t *testing.T, f *fs.FS, s *store.Store, writes int) *store.Store {
	t.Helper()
	f.Fuse(writes)
	id, e := 0, api.OK
	if c.do == nil {
		s, e = store.Open(f)
		if (s != nil) != (e == api.OK) {
			t.Errorf("Open = %v, %d", s, e)
		}
	} else {
		id, e = c.do(s)
	}
	wantID, want := c.want(writes)
	if id != wantID || e != want {
		t.Errorf("the answer is %d, %d, want %d, %d", id, e, wantID, want)
	}
	return s
}

// byHand does the first of the writes on a disk of its own.
func (c call) byHand(t *testing.T, writes int) *fs.FS {
	t.Helper()
	f, _ := c.ready(t)
	for _, do := range c.writes[:min(writes, len(c.writes))] {
		must(t, do(f))
	}
	return f
}

// listed are the IDs that a disk's names tell of a queue.
func listed(f *fs.FS, queue byte) []int {
	var list []int
	for id := 1; id < 60; id++ {
		if slices.Contains(f.List(), name(queue, id)) {
			list = append(list, id)
		}
	}
	return list
}

// try holds the call, cut off behind so many writes, against the same writes
// done by hand: what is there, what is loose, and what a crash keeps.
func (c call) try(t *testing.T, writes, dirs, bytes int) {
	t.Helper()
	f, s := c.ready(t)
	s = c.done(t, f, s, writes)
	g := c.byHand(t, writes)
	if f.Loose() != g.Loose() || f.Used() != g.Used() {
		t.Errorf("Loose() = %d, Used() = %d, want %d, %d", f.Loose(), f.Used(), g.Loose(), g.Used())
	}
	if f.Down() != (writes < len(c.writes)) {
		t.Errorf("Down() = %t", f.Down())
	}
	if s != nil {
		for _, queue := range []byte("iadhc") {
			if got, want := s.List(queue), listed(g, queue); !slices.Equal(got, want) {
				t.Errorf("List(%q) = %v, want %v", queue, got, want)
			}
			for _, id := range listed(g, queue) {
				if got := s.Where(id); got != queue {
					t.Errorf("Where(%d) = %q, want %q", id, got, queue)
				}
			}
		}
	}
	f.Crash(dirs, bytes)
	g.Crash(dirs, bytes)
	wantFiles(t, f, contents(t, g))
}

// ends answers OK and id when all writes are done, else ErrDown.
func ends(id, all int) func(int) (int, api.Errno) {
	return func(writes int) (int, api.Errno) {
		if writes < all {
			return 0, api.ErrDown
		}
		return id, api.OK
	}
}

// always answers that, whatever was done.
func always(e api.Errno) func(int) (int, api.Errno) {
	return func(int) (int, api.Errno) { return 0, e }
}

// commits are calls of Commit: of the first number, within a batch, of the
// first of another batch, with something in t, and on a full disk.
func commits() []call {
	full := func(f *fs.FS, s *store.Store) { s.Commit(mail(1)); f.Room(f.Used() + 10) }
	firstFull := func(e api.Errno) func(int) (int, api.Errno) {
		return func(writes int) (int, api.Errno) {
			if writes < 1 {
				return 0, api.ErrDown
			}
			return 0, e
		}
	}
	do := func(s *store.Store) (int, api.Errno) { return s.Commit(mail(5)) }
	laid := func(id int) []write { return lay('i', id, record(withID(mail(5), id))) }
	return []call{
		{"Commit, the first", nil, nil, do, append([]write{create("next-000000016"), dirSync}, laid(1)...), ends(1, 7)},
		{"Commit, the second", nil, func(f *fs.FS, s *store.Store) { s.Commit(mail(1)) }, do, laid(2), ends(2, 5)},
		{"Commit, another batch", files{"next-000000016": nil}, nil, do,
			append([]write{create("next-000000032"), dirSync, unlink("next-000000016")}, laid(17)...), ends(17, 8)},
		{"Commit, something in t", nil, func(f *fs.FS, s *store.Store) {
			s.Commit(mail(1))
			f.Create(name('t', 2))
			f.Append(name('t', 2), []byte("half"))
		}, do, append([]write{unlink(name('t', 2))}, laid(2)...), ends(2, 6)},
		{"Commit, full", nil, full, do, []write{create(name('t', 2)), unlink(name('t', 2))}, firstFull(api.ErrFull)},
	}
}

// bounces are calls of Bounce, of a Parent in each queue: behind the mail's
// last write its ID is told all the same.
func bounces() []call {
	var list []call
	for i, queue := range []byte("iad") {
		have := files{"next-000000003": nil}
		for j, q := range []byte("iad") {
			have[name(q, j+1)] = file(withID(mail(j+1), j+1), marks(j)...)
		}
		m := withParent(mail(5), i+1)
		laid := append([]write{create("next-000000019"), dirSync, unlink("next-000000003")}, lay('i', 4, record(withID(m, 4)))...)
		list = append(list, call{"Bounce", have, nil, func(s *store.Store) (int, api.Errno) { return s.Bounce(m) },
			append(laid, unlink(name(queue, i+1)), dirSync),
			func(writes int) (int, api.Errno) {
				switch {
				case writes < 8:
					return 0, api.ErrDown
				case writes < 10:
					return 4, api.ErrDown
				}
				return 4, api.OK
			}})
	}
	return list
}

// changes are calls of Mark, Move and Drop.
func changes() []call {
	have := files{"next-000000009": nil}
	for i, queue := range []byte("iadh") {
		have[name(queue, i+1)] = file(withID(mail(i+1), i+1), marks(i)...)
	}
	var list []call
	add := func(what string, do func(*store.Store) api.Errno, want func(int) (int, api.Errno), writes ...write) {
		list = append(list, call{what, have, nil, func(s *store.Store) (int, api.Errno) { return 0, do(s) }, writes, want})
	}
	for i, queue := range []byte("iadh") {
		id, at, k := i+1, name(queue, i+1), marks(5)[i]
		mark := func(s *store.Store) api.Errno { return s.Mark(id, k) }
		add("Mark, full", mark, always(api.ErrFull))
		list[len(list)-1].before = func(f *fs.FS, s *store.Store) { f.Room(f.Used() + 27) }
		add("Mark", mark, ends(0, 2), put(at, laid(k)), sync(at))
		add("Drop", func(s *store.Store) api.Errno { return s.Drop(id) }, ends(0, 2), unlink(at), dirSync)
		for _, to := range []byte("iadh") {
			move := func(s *store.Store) api.Errno { return s.Move(id, to) }
			if to == queue {
				add("Move to where it is", move, always(api.OK))
			} else {
				add("Move", move, ends(0, 2), rename(at, name(to, id)), dirSync)
			}
		}
	}
	return list
}

// opens are calls of Open: nothing to do; each thing that there is to do by
// itself; and all of them.
func opens() []call {
	var list []call
	all := files{}
	var writes []write
	add := func(what string, have files, do ...write) {
		list = append(list, call{what, have, nil, nil, do, ends(0, len(do))})
		maps.Copy(all, have)
		writes = append(writes, do...)
	}
	add("nothing", files{"next-000000050": nil, name('c', 40): nil, name('i', 41): record(withID(mail(1), 41)), name('h', 42): file(withID(mail(1), 42), marks(2)...)})
	add("t", files{name('t', 3): []byte("x"), name('t', 12): nil, name('t', 20): record(withID(mail(1), 20))},
		unlink(name('t', 3)), unlink(name('t', 12)), unlink(name('t', 20)))
	for i, queue := range []byte("adhi") {
		spoilt, other, torn := 30+i, 20-i, 10+i
		m := withID(mail(4), torn)
		good := file(m, marks(i)...)
		// By names: of the greater numbers last.
		do := lay(queue, torn, good)
		do = append(do, rename(name(queue, other), name('c', other)), dirSync)
		do = append(do, rename(name(queue, spoilt), name('c', spoilt)), dirSync)
		add("files", files{
			name(queue, spoilt): []byte("spoilt"), name(queue, other): record(m), name(queue, torn): append(good, laid(marks(1)[0])[:i*8+1]...),
		}, do...)
	}
	add("Parents", files{
		name('d', 4): record(withID(mail(1), 4)), name('i', 5): record(withParent(withID(mail(1), 5), 4)), name('a', 6): record(withParent(withID(mail(1), 6), 5)),
		name('h', 7): record(withParent(withID(mail(1), 7), 6)), name('a', 8): record(withParent(withID(mail(1), 8), 7)),
	}, unlink(name('d', 4)), dirSync, unlink(name('i', 5)), dirSync)
	return append(list, call{"all", all, nil, nil, writes, ends(0, len(writes))})
}

// P14.1 to P14.3: which writes each call does, in which order, and no others:
// cut off behind each of them, with each count of changes and of bytes kept.
func TestCalls(t *testing.T) {
	for _, c := range slices.Concat(commits(), bounces(), changes(), opens()) {
		for writes := range len(c.writes) + 2 {
			for dirs := range 5 {
				for _, bytes := range []int{0, 1, 28, 1000} {
					c.try(t, writes, dirs, bytes)
					if t.Failed() {
						t.Fatalf("%s, %d writes, Crash(%d, %d)", c.what, writes, dirs, bytes)
					}
				}
			}
		}
	}
}

// The tests' own rows of writes are done whole where nothing cuts them off.
func TestByHand(t *testing.T) {
	for _, c := range slices.Concat(commits(), bounces(), changes(), opens()) {
		f, s := c.ready(t)
		s = c.done(t, f, s, len(c.writes))
		wantFiles(t, f, contents(t, c.byHand(t, len(c.writes))))
		wantErr(t, "one more write", f.DirSync(), api.ErrDown)
	}
}
