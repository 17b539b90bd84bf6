package ids_test

import (
	"maps"
	"slices"
	"testing"

	"pillarbox/api"
	"pillarbox/fs"
	"pillarbox/ids"
)

// giving holds each number against all that were given ahead of it, by any
// Ids of one disk.
type giving struct {
	f    *fs.FS
	x    *ids.Ids
	last int
}

// next asks for a number, and tells whether the power is there.
func (g *giving) next(t *testing.T) bool {
	t.Helper()
	n, e := g.x.Next()
	if e != api.OK {
		if e != api.ErrDown || n != 0 {
			t.Fatalf("Next() = %d, %d", n, e)
		}
		return false
	}
	if n <= g.last {
		t.Fatalf("Next() = %d behind %d", n, g.last)
	}
	g.last = n
	return true
}

// crash lays the disk low, and opens it anew.
func (g *giving) crash(t *testing.T, dirs int) {
	t.Helper()
	g.f.Crash(dirs, 0)
	g.x = open(t, g.f)
	if got := g.x.Last(); got < g.last {
		t.Fatalf("behind %d and a crash: Last() = %d", g.last, got)
	}
}

// P13.2: a crash behind each call of each of many Nexts, with each count of
// changes kept, and another one behind it: no number is given twice.
func TestCrashBehindEachCall(t *testing.T) {
	for nexts := range 52 {
		for calls := range 4 {
			for dirs := range 3 {
				for again := range 20 {
					f := disk(t)
					g := giving{f: f, x: open(t, f)}
					for range nexts {
						g.next(t)
					}
					f.Fuse(calls)
					g.next(t)
					g.crash(t, dirs)
					f.Fuse(again % 4)
					for range again {
						g.next(t)
					}
					g.crash(t, dirs)
					g.next(t)
				}
			}
		}
	}
}

// P13.2: as many crashes as a disk has room for files, each at the worst of
// times.
func TestManyCrashes(t *testing.T) {
	for calls := range 4 {
		for dirs := range 3 {
			f := disk(t)
			g := giving{f: f, x: open(t, f)}
			for range 100 {
				for range 17 {
					g.next(t)
				}
				f.Fuse(calls)
				for g.next(t) && g.last%16 != 1 {
				}
				g.crash(t, dirs)
			}
		}
	}
}

// model does what the chapter says on a disk of its own: the directory behind
// each loose change, as sets of the files' numbers; -1 stands for another
// file.
type model struct {
	dirs []map[int]int // the last is now, the first is sure
	fuse int           // -1: none
	down bool
	last int
}

func (m *model) now() map[int]int { return m.dirs[len(m.dirs)-1] }

func (m *model) greatest() int {
	return slices.Max(append(slices.Collect(maps.Keys(m.now())), -1))
}

// write tells whether the fuse lets a write through.
func (m *model) write() bool {
	if m.down || m.fuse == 0 {
		m.down = true
		return false
	}
	m.fuse = max(m.fuse-1, -1)
	return true
}

func (m *model) alter(do func(map[int]int)) bool {
	if !m.write() {
		return false
	}
	next := maps.Clone(m.now())
	do(next)
	m.dirs = append(m.dirs, next)
	return true
}

func (m *model) sync() bool {
	if !m.write() {
		return false
	}
	m.dirs = m.dirs[len(m.dirs)-1:]
	return true
}

func (m *model) crash(dirs int) {
	m.dirs = []map[int]int{m.dirs[min(dirs, len(m.dirs)-1)]}
	m.fuse, m.down = -1, false
}

func (m *model) open() { m.last = max(m.greatest(), 0) }

func (m *model) next() (int, api.Errno) {
	switch old := m.greatest(); {
	case m.down:
		return 0, api.ErrDown
	case m.last == api.MaxID:
		return 0, api.ErrFull
	case m.last >= old:
		top := min(m.last+16, api.MaxID)
		if !m.alter(func(d map[int]int) { d[top] = 1 }) || !m.sync() {
			return 0, api.ErrDown
		}
		if old >= 0 && !m.alter(func(d map[int]int) { delete(d, old) }) {
			return 0, api.ErrDown
		}
	}
	m.last++
	return m.last, api.OK
}

// names are what the model's disk lists.
func (m *model) names() []string {
	if m.down {
		return nil
	}
	var names []string
	for _, n := range slices.Sorted(maps.Keys(m.now())) {
		if n < 0 {
			names = append(names, "else")
		} else {
			names = append(names, file(n))
		}
	}
	return names
}

// dice are numbers that look thrown, the same at each run.
type dice uint32

func (d *dice) roll(n int) int {
	*d = *d*1664525 + 1013904223
	return int(*d>>8) % n
}

// other makes or takes away a file that is none of a number.
func (m *model) other(f *fs.FS) (got, want bool) {
	if m.down {
		return f.Create("else") == api.OK, false
	}
	if _, ok := m.now()[-1]; ok {
		return f.Unlink("else") == api.OK, m.alter(func(d map[int]int) { delete(d, -1) })
	}
	return f.Create("else") == api.OK, m.alter(func(d map[int]int) { d[-1] = 1 })
}

// P13.1 and P13.2: long rows of thrown calls, all that is told behind each.
func TestModel(t *testing.T) {
	for seed := range 600 {
		d := dice(seed)
		start := []int{0, 1, 7, 16, 90, api.MaxID - 70, api.MaxID - 20, api.MaxID}[seed%8]
		f, m := disk(t, file(start)), &model{dirs: []map[int]int{{start: 1}}, fuse: -1}
		if seed%3 == 0 {
			f, m.dirs[0] = disk(t), map[int]int{}
		}
		x := open(t, f)
		m.open()
		for step := range 200 {
			ok, wantOK := true, true
			switch r := d.roll(20); {
			case r < 14:
				n, e := x.Next()
				if k, g := m.next(); n != k || e != g {
					t.Fatalf("seed %d, step %d: Next() = %d, %d, want %d, %d", seed, step, n, e, k, g)
				}
			case r < 16:
				n := d.roll(4)
				f.Fuse(n)
				m.fuse = n
			case r < 17:
				ok, wantOK = m.other(f)
			case r < 18:
				ok, wantOK = f.DirSync() == api.OK, m.sync()
			case r < 19 && !m.down:
				x = open(t, f)
				m.open()
			default:
				dirs := d.roll(5)
				f.Crash(dirs, 0)
				m.crash(dirs)
				x = open(t, f)
				m.open()
			}
			if ok != wantOK || x.Last() != m.last || f.Down() != m.down || f.Loose() != len(m.dirs)-1 || !slices.Equal(f.List(), m.names()) {
				t.Fatalf("seed %d, step %d: %t, Last %d, Down %t, Loose %d, List %q, want %t, %d, %t, %d, %q", seed, step,
					ok, x.Last(), f.Down(), f.Loose(), f.List(), wantOK, m.last, m.down, len(m.dirs)-1, m.names())
			}
		}
	}
}
