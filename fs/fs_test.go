package fs_test

import (
	"bytes"
	"maps"
	"math"
	"slices"
	"strings"
	"testing"

	"pillarbox/api"
	"pillarbox/fs"
)

// must fails the test at once if a call that prepares it has an error.
func must(t *testing.T, errs ...api.Errno) {
	t.Helper()
	for i, e := range errs {
		if e != api.OK {
			t.Fatalf("call %d of these: error %d", i, e)
		}
	}
}

func wantErr(t *testing.T, what string, got, want api.Errno) {
	t.Helper()
	if got != want {
		t.Errorf("%q: error %d, want %d", what, got, want)
	}
}

// wantFiles holds the whole disk, whose power is there, against name, bytes,
// name, bytes, ..
func wantFiles(t *testing.T, f *fs.FS, pairs ...string) {
	t.Helper()
	var names []string
	used := 0
	for i := 0; i < len(pairs); i += 2 {
		names = append(names, pairs[i])
		used += len(pairs[i+1])
		got, e := f.Read(pairs[i])
		if e != api.OK || string(got) != pairs[i+1] {
			t.Errorf("Read(%q) = %q, %d, want %q", pairs[i], got, e, pairs[i+1])
		}
	}
	if got := f.List(); !slices.Equal(got, names) {
		t.Errorf("List() = %q, want %q", got, names)
	}
	if got := f.Used(); got != used {
		t.Errorf("Used() = %d, want %d", got, used)
	}
}

func wantState(t *testing.T, f *fs.FS, loose int, down bool) {
	t.Helper()
	if f.Loose() != loose || f.Down() != down {
		t.Errorf("Loose() = %d, Down() = %t, want %d, %t", f.Loose(), f.Down(), loose, down)
	}
}

// filled is a disk with files whose bytes and names are sure: name, bytes, ..
func filled(t *testing.T, room int, pairs ...string) *fs.FS {
	t.Helper()
	f := fs.New(room)
	for i := 0; i < len(pairs); i += 2 {
		must(t, f.Create(pairs[i]), f.Append(pairs[i], []byte(pairs[i+1])), f.Sync(pairs[i]))
	}
	must(t, f.DirSync())
	return f
}

// writes are a write of each kind on a disk of a, with hi, and b: each of
// them has no error.
var writes = []struct {
	name  string
	do    func(*fs.FS) api.Errno
	loose int
	files []string
}{
	{"Create", func(f *fs.FS) api.Errno { return f.Create("c") }, 1, []string{"a", "hi", "b", "", "c", ""}},
	{"Append", func(f *fs.FS) api.Errno { return f.Append("a", []byte("!")) }, 0, []string{"a", "hi!", "b", ""}},
	{"Append of nothing", func(f *fs.FS) api.Errno { return f.Append("a", nil) }, 0, []string{"a", "hi", "b", ""}},
	{"Sync", func(f *fs.FS) api.Errno { return f.Sync("a") }, 0, []string{"a", "hi", "b", ""}},
	{"Rename", func(f *fs.FS) api.Errno { return f.Rename("a", "d") }, 1, []string{"b", "", "d", "hi"}},
	{"Rename over another", func(f *fs.FS) api.Errno { return f.Rename("a", "b") }, 1, []string{"b", "hi"}},
	{"Rename to itself", func(f *fs.FS) api.Errno { return f.Rename("a", "a") }, 0, []string{"a", "hi", "b", ""}},
	{"Unlink", func(f *fs.FS) api.Errno { return f.Unlink("a") }, 1, []string{"b", ""}},
	{"DirSync", func(f *fs.FS) api.Errno { return f.DirSync() }, 0, []string{"a", "hi", "b", ""}},
}

// failing are calls that have an error of their own on such a disk, of 2
// bytes' room.
var failing = []struct {
	name string
	do   func(*fs.FS) api.Errno
	want api.Errno
}{
	{"Create of no name", func(f *fs.FS) api.Errno { return f.Create("") }, api.ErrArg},
	{"Create of one that is there", func(f *fs.FS) api.Errno { return f.Create("a") }, api.ErrThere},
	{"Append to no name", func(f *fs.FS) api.Errno { return f.Append("a b", nil) }, api.ErrArg},
	{"Append to none", func(f *fs.FS) api.Errno { return f.Append("z", nil) }, api.ErrNone},
	{"Append of too much", func(f *fs.FS) api.Errno { return f.Append("a", []byte("x")) }, api.ErrFull},
	{"Sync of no name", func(f *fs.FS) api.Errno { return f.Sync("a/b") }, api.ErrArg},
	{"Sync of none", func(f *fs.FS) api.Errno { return f.Sync("z") }, api.ErrNone},
	{"Rename of no name", func(f *fs.FS) api.Errno { return f.Rename("", "b") }, api.ErrArg},
	{"Rename to no name", func(f *fs.FS) api.Errno { return f.Rename("a", "") }, api.ErrArg},
	{"Rename of none", func(f *fs.FS) api.Errno { return f.Rename("z", "b") }, api.ErrNone},
	{"Rename of none to itself", func(f *fs.FS) api.Errno { return f.Rename("z", "z") }, api.ErrNone},
	{"Unlink of no name", func(f *fs.FS) api.Errno { return f.Unlink("\x7f") }, api.ErrArg},
	{"Unlink of none", func(f *fs.FS) api.Errno { return f.Unlink("z") }, api.ErrNone},
}

// P4.1 and P4.3: the chapter's example.
func TestExample(t *testing.T) {
	f := fs.New(100)
	must(t, f.Create("a"), f.Append("a", []byte("hello")), f.Sync("a"))
	f.Crash(0, 9)
	wantFiles(t, f)

	must(t, f.Create("a"), f.Append("a", []byte("hello")), f.Sync("a"), f.DirSync())
	f.Crash(0, 9)
	wantFiles(t, f, "a", "hello")
	wantState(t, f, 0, false)
}

// P4.1: a name in each place where one stands.
func TestNames(t *testing.T) {
	for _, name := range []string{
		"a", "!", "~", ".", "..", "-", `\`, "a.b", "A", "0",
		strings.Repeat("n", api.MaxName-1), strings.Repeat("~", api.MaxName),
	} {
		f := fs.New(9)
		wantErr(t, "Create "+name, f.Create(name), api.OK)
		wantErr(t, "Append "+name, f.Append(name, []byte("x")), api.OK)
		wantErr(t, "Sync "+name, f.Sync(name), api.OK)
		wantFiles(t, f, name, "x")
		wantErr(t, "Rename from "+name, f.Rename(name, "other"), api.OK)
		wantErr(t, "Rename to "+name, f.Rename("other", name), api.OK)
		wantErr(t, "Unlink "+name, f.Unlink(name), api.OK)
		wantFiles(t, f)
	}
	bad := []string{
		"", " ", "a b", "a ", " a", "\x1f", "\x00", "a\x7f", "/", "a/b", "/a", "a/", "\n",
		"\x80", "a\xff", "\xc3\xa9", strings.Repeat("n", api.MaxName+1),
	}
	for _, name := range bad {
		f := filled(t, 9, "a", "hi")
		wantErr(t, "Create "+name, f.Create(name), api.ErrArg)
		wantErr(t, "Append "+name, f.Append(name, nil), api.ErrArg)
		wantErr(t, "Sync "+name, f.Sync(name), api.ErrArg)
		wantErr(t, "Rename from "+name, f.Rename(name, "a"), api.ErrArg)
		wantErr(t, "Rename to "+name, f.Rename("a", name), api.ErrArg)
		wantErr(t, "Rename both "+name, f.Rename(name, name), api.ErrArg)
		wantErr(t, "Unlink "+name, f.Unlink(name), api.ErrArg)
		if b, e := f.Read(name); e != api.ErrArg || len(b) != 0 {
			t.Errorf("Read(%q) = %q, %d", name, b, e)
		}
		wantFiles(t, f, "a", "hi")
		wantState(t, f, 0, false)
	}
}

// P4.1: which bytes a name may have, one by one.
func TestNameBytes(t *testing.T) {
	for c := range 256 {
		want := api.ErrArg
		if c >= 33 && c <= 126 && c != '/' {
			want = api.OK
		}
		for _, name := range []string{string([]byte{byte(c)}), string([]byte{byte(c), 'x'}), string([]byte{'x', byte(c)})} {
			if got := fs.New(0).Create(name); got != want {
				t.Errorf("Create(%q) = %d, want %d", name, got, want)
			}
		}
	}
}

// P4.1: what each write does.
func TestWrites(t *testing.T) {
	for _, w := range writes {
		f := filled(t, 100, "a", "hi", "b", "")
		wantErr(t, w.name, w.do(f), api.OK)
		wantFiles(t, f, w.files...)
		wantState(t, f, w.loose, false)
	}
}

// P4.1: a call with an error changes nothing.
func TestErrorsChangeNothing(t *testing.T) {
	f := filled(t, 2, "a", "hi", "b", "")
	must(t, f.Create("c"))
	for _, c := range failing {
		wantErr(t, c.name, c.do(f), c.want)
		wantFiles(t, f, "a", "hi", "b", "", "c", "")
		wantState(t, f, 1, false)
	}
}

// P4.1 and R2: two errors at once, by pairs that stand beside each other.
func TestErrorOrder(t *testing.T) {
	dark := filled(t, 2, "a", "hi", "b", "")
	dark.Fuse(0)
	wantErr(t, "the fuse", dark.DirSync(), api.ErrDown)
	for _, c := range failing {
		want := api.ErrDown
		if c.want == api.ErrArg {
			want = api.ErrArg
		}
		wantErr(t, "no power: "+c.name, c.do(dark), want)
	}
	if b, e := dark.Read(""); e != api.ErrArg || b != nil {
		t.Error("no power: Read of no name:", b, e)
	}
	if b, e := dark.Read("z"); e != api.ErrDown || b != nil {
		t.Error("no power: Read of none:", b, e)
	}
	for _, w := range writes {
		wantErr(t, "no power: "+w.name, w.do(dark), api.ErrDown)
	}

	full := fs.New(0)
	for i := range api.MaxFiles {
		must(t, full.Create("f"+string(rune('A'+i/16))+string(rune('A'+i%16))))
	}
	wantErr(t, "full: Create of one that is there", full.Create("fAA"), api.ErrThere)
	wantErr(t, "full: Create of no name", full.Create("f/A"), api.ErrArg)
	wantErr(t, "full: Create", full.Create("new"), api.ErrFull)
	wantErr(t, "full: Append of too much to none", full.Append("new", []byte("x")), api.ErrNone)
	wantErr(t, "full: Append of too much to no name", full.Append("", []byte("x")), api.ErrArg)
	wantErr(t, "full: Rename of none to no name", full.Rename("new", ""), api.ErrArg)
	full.Fuse(0)
	wantErr(t, "full, at the fuse: Create", full.Create("new"), api.ErrFull)
	wantErr(t, "full: the fuse", full.Sync("fAA"), api.ErrDown)
	wantErr(t, "full, no power: Create", full.Create("new"), api.ErrDown)
	wantErr(t, "full, no power: Append", full.Append("fAA", []byte("x")), api.ErrDown)
}

// P4.1: New's room, and Append at its ends.
func TestRoom(t *testing.T) {
	for _, c := range []struct{ given, room int }{
		{math.MinInt, 0}, {-1, 0}, {0, 0}, {1, 1}, {10, 10},
		{api.MaxRoom - 1, api.MaxRoom - 1}, {api.MaxRoom, api.MaxRoom},
		{api.MaxRoom + 1, api.MaxRoom}, {math.MaxInt, api.MaxRoom},
	} {
		later := fs.New(5)
		later.Room(c.given)
		for _, f := range []*fs.FS{fs.New(c.given), later} {
			must(t, f.Create("a"), f.Create("b"))
			wantErr(t, "Append of too much", f.Append("a", make([]byte, c.room+1)), api.ErrFull)
			wantErr(t, "Append of as much", f.Append("a", make([]byte, c.room)), api.OK)
			wantErr(t, "Append of one more", f.Append("b", []byte("x")), api.ErrFull)
			wantErr(t, "Append of nothing more", f.Append("b", nil), api.OK)
			if f.Used() != c.room {
				t.Errorf("room %d: Used() = %d, want %d", c.given, f.Used(), c.room)
			}
		}
	}
}

// P4.1: room is for all files together, and an unlinked one has none.
func TestRoomOfAll(t *testing.T) {
	f := filled(t, 6, "a", "abc", "b", "12")
	wantErr(t, "too much", f.Append("b", []byte("34")), api.ErrFull)
	must(t, f.Append("b", []byte("3")))
	wantErr(t, "too much", f.Append("a", []byte("d")), api.ErrFull)
	wantFiles(t, f, "a", "abc", "b", "123")
	must(t, f.Unlink("a"), f.Append("b", []byte("456")))
	wantFiles(t, f, "b", "123456")
	must(t, f.Create("c"), f.Rename("c", "b"))
	wantFiles(t, f, "b", "")
	wantErr(t, "as much", f.Append("b", []byte("654321")), api.OK)
}

// P4.2: Room below what is used: nothing goes, nothing comes.
func TestRoomLess(t *testing.T) {
	f := filled(t, 9, "a", "hello")
	must(t, f.Append("a", []byte("xyz")))
	f.Room(7)
	wantFiles(t, f, "a", "helloxyz")
	wantErr(t, "Append", f.Append("a", []byte("!")), api.ErrFull)
	wantErr(t, "Append of nothing", f.Append("a", nil), api.ErrFull)
	must(t, f.Sync("a"), f.Create("b"), f.Rename("a", "c"), f.DirSync())
	wantFiles(t, f, "b", "", "c", "helloxyz")
	f.Room(8)
	wantErr(t, "Append of nothing", f.Append("b", nil), api.OK)
	wantErr(t, "Append", f.Append("b", []byte("!")), api.ErrFull)
	f.Room(9)
	wantErr(t, "Append", f.Append("b", []byte("!")), api.OK)
	f.Room(3)
	f.Crash(0, 0)
	wantErr(t, "a crash leaves the room", f.Append("b", []byte("1234")), api.ErrFull)
}

// P4.2: Room counts behind the power's end too.
func TestRoomInTheDark(t *testing.T) {
	f := filled(t, 3, "a", "abc")
	f.Fuse(0)
	wantErr(t, "the fuse", f.Sync("a"), api.ErrDown)
	f.Room(4)
	f.Crash(0, 0)
	wantErr(t, "Append", f.Append("a", []byte("de")), api.ErrFull)
	wantErr(t, "Append", f.Append("a", []byte("d")), api.OK)
}

// P4.1: MaxFiles files, and again as many when one goes.
func TestMaxFiles(t *testing.T) {
	f := fs.New(9)
	var names []string
	for i := range api.MaxFiles {
		name := "n" + string(rune('a'+i/16)) + string(rune('a'+i%16))
		wantErr(t, "Create "+name, f.Create(name), api.OK)
		names = append(names, name)
	}
	if !slices.Equal(f.List(), names) || f.Loose() != api.MaxFiles {
		t.Error(f.Loose(), f.List())
	}
	wantErr(t, "one more", f.Create("z"), api.ErrFull)
	wantErr(t, "one that is there", f.Create(names[7]), api.ErrThere)
	wantErr(t, "Append", f.Append(names[7], []byte("x")), api.OK)
	wantErr(t, "Rename", f.Rename(names[7], "z"), api.OK)
	wantErr(t, "one more", f.Create(names[7]), api.ErrFull)
	wantErr(t, "Rename over", f.Rename("z", names[8]), api.OK)
	wantErr(t, "one again", f.Create("z"), api.OK)
	wantErr(t, "Unlink", f.Unlink(names[0]), api.OK)
	wantErr(t, "one again", f.Create(names[0]), api.OK)
	wantErr(t, "one more", f.Create(names[7]), api.ErrFull)
	must(t, f.DirSync())
	must(t, f.Unlink("z"), f.Create("y"))
	f.Crash(1, 0)
	wantErr(t, "one again", f.Create("y"), api.OK)
	wantErr(t, "one more", f.Create("x"), api.ErrFull)
}

// P4.1: a file renamed to itself, over another one, and back.
func TestRename(t *testing.T) {
	f := filled(t, 99, "a", "one", "b", "two")
	must(t, f.Rename("a", "a"))
	wantFiles(t, f, "a", "one", "b", "two")
	wantState(t, f, 0, false)
	must(t, f.Rename("a", "b"))
	wantFiles(t, f, "b", "one")
	wantState(t, f, 1, false)
	wantErr(t, "from again", f.Rename("a", "b"), api.ErrNone)
	must(t, f.Rename("b", "a"))
	wantFiles(t, f, "a", "one")
	wantState(t, f, 2, false)
	wantErr(t, "what was to", f.Append("b", nil), api.ErrNone)
	must(t, f.Create("b"), f.Append("a", []byte("!")))
	wantFiles(t, f, "a", "one!", "b", "")
	wantState(t, f, 3, false)
}

// P4.2: List in the order of the names' bytes, whatever order they came in.
func TestList(t *testing.T) {
	f := fs.New(0)
	names := []string{"b", "a", "~", "!", "ab", "B", "a.1", "a.10", "a.2", "Z", "0"}
	for _, name := range names {
		must(t, f.Create(name))
	}
	want := []string{"!", "0", "B", "Z", "a", "a.1", "a.10", "a.2", "ab", "b", "~"}
	for range 5 {
		if got := f.List(); !slices.Equal(got, want) {
			t.Fatalf("List() = %q, want %q", got, want)
		}
	}
}

// P4.2: what is told ahead of the power's end, behind it, and behind a crash.
func TestTold(t *testing.T) {
	f := filled(t, 99, "a", "hi")
	must(t, f.Append("a", []byte("!!")), f.Create("b"), f.Append("b", []byte("you")))
	wantFiles(t, f, "a", "hi!!", "b", "you")
	wantState(t, f, 1, false)
	f.Fuse(0)
	wantFiles(t, f, "a", "hi!!", "b", "you")
	wantState(t, f, 1, false)
	wantErr(t, "the fuse", f.Unlink("a"), api.ErrDown)
	wantState(t, f, 1, true)
	if got := f.List(); len(got) != 0 {
		t.Errorf("no power: List() = %q", got)
	}
	if got := f.Used(); got != 7 {
		t.Errorf("no power: Used() = %d, want 7", got)
	}
	if b, e := f.Read("a"); e != api.ErrDown || b != nil {
		t.Errorf("no power: Read = %q, %d", b, e)
	}
	f.Crash(1, 1)
	wantFiles(t, f, "a", "hi!", "b", "y")
	wantState(t, f, 0, false)
	if b, e := f.Read("z"); e != api.ErrNone || b != nil {
		t.Errorf("Read of none = %q, %d", b, e)
	}
}

// P4.2: a Fuse of each small count ahead of each kind of write.
func TestFuse(t *testing.T) {
	for _, n := range []int{math.MinInt, -1, 0, 1, 2, 3, 4} {
		for _, w := range writes {
			f := filled(t, 99, "a", "hi", "b", "")
			f.Fuse(n)
			for range n {
				wantErr(t, "a write", f.Sync("b"), api.OK)
				wantState(t, f, 0, false)
			}
			wantErr(t, w.name+" at the fuse", w.do(f), api.ErrDown)
			wantState(t, f, 0, true)
			if f.Used() != 2 {
				t.Errorf("%s at the fuse was done: Used() = %d", w.name, f.Used())
			}
			wantErr(t, w.name+" behind it", w.do(f), api.ErrDown)
			f.Crash(9, 9)
			wantFiles(t, f, "a", "hi", "b", "")
			wantErr(t, w.name+" behind a crash", w.do(f), api.OK)
			wantFiles(t, f, w.files...)
		}
	}
}

// P4.2: a fuse lets each kind of write through, and counts it.
func TestFuseCounts(t *testing.T) {
	for _, w := range writes {
		f := filled(t, 99, "a", "hi", "b", "")
		f.Fuse(1)
		wantErr(t, w.name, w.do(f), api.OK)
		wantFiles(t, f, w.files...)
		wantState(t, f, w.loose, false)
		wantErr(t, "DirSync behind "+w.name, f.DirSync(), api.ErrDown)
		wantState(t, f, w.loose, true)
	}
}

// P4.2: a call with an error of its own is no write, and neither is one that
// changes nothing.
func TestFuseCountsNoOther(t *testing.T) {
	for _, n := range []int{0, 1} {
		f := filled(t, 2, "a", "hi", "b", "")
		f.Fuse(n)
		for range 3 {
			for _, c := range failing {
				wantErr(t, c.name, c.do(f), c.want)
			}
			if _, e := f.Read("a"); e != api.OK {
				t.Error("Read:", e)
			}
			f.List()
			f.Used()
			f.Loose()
			f.Room(2)
			wantState(t, f, 0, false)
		}
		for range n {
			wantErr(t, "Sync", f.Sync("a"), api.OK)
		}
		wantErr(t, "the fuse", f.Sync("a"), api.ErrDown)
	}
}

// P4.2: a Fuse laid anew, and one behind the power's end.
func TestFuseAnew(t *testing.T) {
	f := filled(t, 99, "a", "hi")
	f.Fuse(0)
	f.Fuse(2)
	must(t, f.Sync("a"), f.Sync("a"))
	f.Fuse(1)
	must(t, f.Sync("a"))
	f.Fuse(math.MaxInt)
	for range 9 {
		must(t, f.Sync("a"))
	}
	f.Fuse(5)
	f.Fuse(-5)
	wantErr(t, "the fuse", f.Sync("a"), api.ErrDown)
	for _, n := range []int{-1, 0, 1, 9, math.MaxInt} {
		f.Fuse(n)
		wantState(t, f, 0, true)
		wantErr(t, "behind the power's end", f.Sync("a"), api.ErrDown)
		if got := f.List(); len(got) != 0 {
			t.Errorf("behind the power's end: List() = %q", got)
		}
	}
	f.Fuse(0)
	f.Crash(0, 0)
	wantFiles(t, f, "a", "hi")
	must(t, f.Sync("a"), f.DirSync())
	wantState(t, f, 0, false)
}

// P4.3: the power's being there without a Fuse, whether it was gone or not.
func TestCrashWithoutFuse(t *testing.T) {
	f := filled(t, 99, "a", "hi")
	f.Fuse(1)
	f.Crash(0, 0)
	for range 5 {
		wantErr(t, "a write behind a crash", f.Sync("a"), api.OK)
	}
	f.Fuse(1)
	must(t, f.Sync("a"))
	f.Crash(0, 0)
	wantErr(t, "a write behind a crash", f.Sync("a"), api.OK)
}

// story is a row of changes, and what the disk is behind each of them, with
// all bytes of its files.
func story(t *testing.T) (*fs.FS, [][]string) {
	f := filled(t, 99, "a", "AA", "b", "BBB", "c", "")
	must(t, f.Append("a", []byte("xy")), f.Append("c", []byte("C")))
	must(t,
		f.Rename("a", "b"),
		f.Rename("b", "b"),
		f.Append("b", []byte("z")),
		f.Unlink("c"),
		f.Create("c"),
		f.Append("c", []byte("new")),
		f.Rename("b", "a"),
		f.Rename("c", "a"),
		f.Unlink("a"),
		f.Create("a"))
	return f, [][]string{
		{"a", "AAxyz", "b", "BBB", "c", "C"},
		{"b", "AAxyz", "c", "C"},
		{"b", "AAxyz"},
		{"b", "AAxyz", "c", "new"},
		{"a", "AAxyz", "c", "new"},
		{"a", "new"},
		{},
		{"a", ""},
	}
}

// sureOf: how many bytes of a file of the story are sure, by its bytes.
func sureOf(all string) int {
	switch all {
	case "AAxyz":
		return 2
	case "BBB":
		return 3
	}
	return 0
}

// cut is what a crash with so many bytes leaves of files: its sure ones, and
// so many more.
func cut(files []string, more int) []string {
	left := slices.Clone(files)
	for i := 1; i < len(left); i += 2 {
		keep := len(left[i])
		if m := max(more, 0); m < keep-sureOf(left[i]) {
			keep = sureOf(left[i]) + m
		}
		left[i] = left[i][:keep]
	}
	return left
}

// P4.3: a Crash at each count of loose changes and of bytes; with the power
// there, and gone; and another one behind it keeps all.
func TestCrash(t *testing.T) {
	for _, dirs := range []int{math.MinInt, -1, 0, 1, 2, 3, 4, 5, 6, 7, 8, 100, math.MaxInt} {
		for _, more := range []int{math.MinInt, -1, 0, 1, 2, 3, 4, 100, math.MaxInt} {
			for _, dark := range []bool{false, true} {
				f, states := story(t)
				wantFiles(t, f, states[7]...)
				wantState(t, f, 7, false)
				if dark {
					f.Fuse(0)
					wantErr(t, "the fuse", f.DirSync(), api.ErrDown)
				}
				f.Crash(dirs, more)
				want := cut(states[min(max(dirs, 0), 7)], more)
				wantFiles(t, f, want...)
				wantState(t, f, 0, false)
				f.Crash(100, 0)
				wantFiles(t, f, want...)
				f.Crash(0, 100)
				wantFiles(t, f, want...)
				if t.Failed() {
					t.Fatalf("Crash(%d, %d), dark %t", dirs, more, dark)
				}
			}
		}
	}
}

// P4.3: the write that the fuse stops is none of those a crash may keep.
func TestCrashWithoutTheLast(t *testing.T) {
	f := filled(t, 99, "a", "hi")
	f.Fuse(2)
	must(t, f.Append("a", []byte("1")), f.Create("b"))
	wantErr(t, "the fuse", f.Append("a", []byte("2")), api.ErrDown)
	wantErr(t, "behind it", f.Append("a", []byte("3")), api.ErrDown)
	wantErr(t, "behind it", f.Unlink("a"), api.ErrDown)
	f.Crash(9, 9)
	wantFiles(t, f, "a", "hi1", "b", "")
}

// P4.1: a Sync goes with its file, whichever name that has then; what came
// behind it is not sure.
func TestSync(t *testing.T) {
	f := filled(t, 99, "a", "")
	must(t, f.Append("a", []byte("one")), f.Rename("a", "b"), f.Sync("b"), f.Append("b", []byte("two")))
	f.Crash(0, 0)
	wantFiles(t, f, "a", "one")

	must(t, f.Append("a", []byte("two")), f.Sync("a"), f.Create("b"), f.Append("b", []byte("x")), f.Rename("a", "b"))
	f.Crash(1, 0)
	wantFiles(t, f, "a", "onetwo", "b", "")

	must(t, f.Sync("a"), f.DirSync(), f.Append("b", []byte("x")), f.Sync("a"))
	f.Crash(0, 0)
	wantFiles(t, f, "a", "onetwo", "b", "")
}

// P4.1: an unlinked file and a new one of its name are two.
func TestSameNameAnew(t *testing.T) {
	f := filled(t, 99, "a", "old")
	must(t, f.Unlink("a"), f.Create("a"), f.Append("a", []byte("young")))
	wantFiles(t, f, "a", "young")
	f.Crash(2, 2)
	wantFiles(t, f, "a", "yo")
	must(t, f.Unlink("a"), f.Create("a"), f.Append("a", []byte("young")), f.Sync("a"))
	f.Crash(0, 0)
	wantFiles(t, f, "a", "yo")
}

// P4.1: DirSync makes sure what was ahead of it, and nothing behind it.
func TestDirSync(t *testing.T) {
	f := fs.New(99)
	must(t, f.Create("a"), f.Create("b"))
	wantState(t, f, 2, false)
	must(t, f.DirSync())
	wantState(t, f, 0, false)
	must(t, f.DirSync(), f.Unlink("a"), f.Rename("b", "c"), f.DirSync(), f.Create("d"), f.Unlink("c"))
	wantState(t, f, 2, false)
	f.Crash(0, 0)
	wantFiles(t, f, "c", "")
	must(t, f.Create("d"))
	f.Crash(1, 0)
	wantFiles(t, f, "c", "", "d", "")
}

// P4.3: one crash behind another: what the first did not keep is gone.
func TestCrashAgain(t *testing.T) {
	f := filled(t, 99, "a", "12")
	must(t, f.Append("a", []byte("345")), f.Create("b"), f.Create("c"))
	f.Crash(1, 1)
	wantFiles(t, f, "a", "123", "b", "")
	must(t, f.Append("a", []byte("ab")), f.Create("d"), f.Append("b", []byte("x")))
	wantFiles(t, f, "a", "123ab", "b", "x", "d", "")
	wantState(t, f, 1, false)
	f.Crash(0, 1)
	wantFiles(t, f, "a", "123a", "b", "x")
	f.Crash(9, 9)
	wantFiles(t, f, "a", "123a", "b", "x")
}

// P4.1 and P4.3: files that a crash brings back may have more than room.
func TestCrashOverRoom(t *testing.T) {
	f := filled(t, 4, "a", "1234", "b", "")
	must(t, f.Unlink("a"), f.Append("b", []byte("5678")))
	wantErr(t, "full", f.Append("b", []byte("9")), api.ErrFull)
	f.Crash(0, 3)
	wantFiles(t, f, "a", "1234", "b", "567")
	wantErr(t, "more than full", f.Append("b", nil), api.ErrFull)
	must(t, f.Unlink("a"), f.Append("b", []byte("8")))
	wantFiles(t, f, "b", "5678")
}

// The chapter's brackets: a nil *FS in every call.
func TestNil(t *testing.T) {
	var f *fs.FS
	for _, w := range writes {
		wantErr(t, w.name, w.do(f), api.ErrArg)
	}
	for _, c := range failing {
		wantErr(t, c.name, c.do(f), api.ErrArg)
	}
	if b, e := f.Read("a"); e != api.ErrArg || b != nil {
		t.Error("Read:", b, e)
	}
	f.Room(5)
	f.Fuse(0)
	f.Crash(1, 1)
	if f.List() != nil || f.Used() != 0 || f.Loose() != 0 || f.Down() {
		t.Error("nil:", f.List(), f.Used(), f.Loose(), f.Down())
	}
}

// R1: an FS that New did not make does not panic: it has no room.
func TestZero(t *testing.T) {
	f := new(fs.FS)
	f.Crash(1, 1)
	wantFiles(t, f)
	must(t, f.DirSync())
	wantErr(t, "Unlink", f.Unlink("a"), api.ErrNone)
	wantErr(t, "Create", f.Create("a"), api.OK)
	wantErr(t, "Append", f.Append("a", []byte("x")), api.ErrFull)
	f.Crash(1, 1)
	wantFiles(t, f, "a", "")
}

// R4: what came in, its spare room too, is not changed and not kept.
func TestInShared(t *testing.T) {
	f := fs.New(99)
	must(t, f.Create("a"))
	room := []byte("hello, you there")
	must(t, f.Append("a", room[:5]), f.Append("a", []byte("!!")))
	if string(room) != "hello, you there" {
		t.Errorf("what came in is %q now", room)
	}
	copy(room, "HELLO")
	wantFiles(t, f, "a", "hello!!")
}

// R4: what was handed out shares nothing with the disk, or with another
// answer, its spare room too.
func TestOutShared(t *testing.T) {
	f := fs.New(99)
	must(t, f.Create("a"), f.Create("b"))
	for _, part := range []string{"hel", "lo", ", ", "you"} {
		must(t, f.Append("a", []byte(part)))
	}
	one, _ := f.Read("a")
	two, _ := f.Read("a")
	for i := range one[:cap(one)] {
		one[:cap(one)][i] = '#'
	}
	if string(two) != "hello, you" {
		t.Errorf("another answer is %q now", two)
	}
	must(t, f.Append("a", []byte("!")))
	if !bytes.Equal(one, bytes.Repeat([]byte("#"), 10)) || string(two) != "hello, you" {
		t.Errorf("answers are %q and %q now", one, two)
	}
	names := f.List()
	names[0], names[1] = "y", "z"
	wantFiles(t, f, "a", "hello, you!", "b", "")

	// A crash cuts bytes off; what is put behind the cut is in no answer.
	all, _ := f.Read("a")
	f.Crash(9, 3)
	must(t, f.Append("a", []byte("P")))
	if string(all) != "hello, you!" {
		t.Errorf("an answer is %q behind a crash", all)
	}
	wantFiles(t, f, "a", "helP", "b", "")
}

// R5: disks know nothing of each other.
func TestApart(t *testing.T) {
	one, two := fs.New(9), fs.New(9)
	must(t, one.Create("a"), one.Append("a", []byte("x")))
	one.Fuse(0)
	wantErr(t, "the fuse", one.DirSync(), api.ErrDown)
	wantFiles(t, two)
	wantState(t, two, 0, false)
	must(t, two.Create("a"))
	wantFiles(t, two, "a", "")
}

// model does what the chapter says by other means: it keeps the whole
// directory behind each loose change, and files by numbers.
type model struct {
	room  int
	dirs  []map[string]int // the last is now, the first is sure
	files map[int]string
	sure  map[int]int
	fuse  int // -1: none
	down  bool
}

func newModel(room int) *model {
	return &model{room: room, dirs: []map[string]int{{}}, files: map[int]string{}, sure: map[int]int{}, fuse: -1}
}

func (m *model) now() map[string]int { return m.dirs[len(m.dirs)-1] }

func (m *model) used() int {
	sum := 0
	for _, id := range m.now() {
		sum += len(m.files[id])
	}
	return sum
}

// write tells the first error that applies; done is what is done if none does.
func (m *model) write(own api.Errno, done func()) api.Errno {
	switch {
	case own == api.ErrArg:
		return api.ErrArg
	case m.down:
		return api.ErrDown
	case own != api.OK:
		return own
	case m.fuse == 0:
		m.down = true
		return api.ErrDown
	}
	if m.fuse > 0 {
		m.fuse--
	}
	done()
	return api.OK
}

func (m *model) alter(do func(map[string]int)) {
	next := maps.Clone(m.now())
	do(next)
	m.dirs = append(m.dirs, next)
}

func (m *model) crash(dirs, more int) {
	left := m.dirs[min(max(dirs, 0), len(m.dirs)-1)]
	m.dirs = []map[string]int{left}
	for _, id := range left {
		end := min(m.sure[id]+max(more, 0), len(m.files[id]))
		m.files[id], m.sure[id] = m.files[id][:end], end
	}
	m.fuse, m.down = -1, false
}

// dice are numbers that look thrown, the same at each run.
type dice uint32

func (d *dice) roll(n int) int {
	*d = *d*1664525 + 1013904223
	return int(*d>>8) % n
}

func none(m *model, name string) api.Errno {
	if name == "" {
		return api.ErrArg
	}
	if _, ok := m.now()[name]; !ok {
		return api.ErrNone
	}
	return api.OK
}

// play does one thrown call to both, and tells both errors.
func play(d *dice, f *fs.FS, m *model, step int) (got, want api.Errno) {
	names := []string{"a", "b", "c", "d", ""}
	name, other := names[d.roll(5)], names[d.roll(5)]
	own := none(m, name)
	switch d.roll(16) {
	case 0, 1, 2:
		switch own {
		case api.OK:
			own = api.ErrThere
		case api.ErrNone:
			own = api.OK
		}
		return f.Create(name), m.write(own, func() { m.alter(func(d map[string]int) { d[name] = step }) })
	case 3, 4, 5, 6:
		b := strings.Repeat(string(rune('a'+step%26)), d.roll(5))
		if own == api.OK && m.used()+len(b) > m.room {
			own = api.ErrFull
		}
		id := m.now()[name]
		return f.Append(name, []byte(b)), m.write(own, func() { m.files[id] += b })
	case 7, 8:
		id := m.now()[name]
		return f.Sync(name), m.write(own, func() { m.sure[id] = len(m.files[id]) })
	case 9, 10:
		if other == "" {
			own = api.ErrArg
		}
		return f.Rename(name, other), m.write(own, func() {
			if name != other {
				m.alter(func(d map[string]int) { d[other] = d[name]; delete(d, name) })
			}
		})
	case 11:
		return f.Unlink(name), m.write(own, func() { m.alter(func(d map[string]int) { delete(d, name) }) })
	case 12:
		return f.DirSync(), m.write(api.OK, func() { m.dirs = []map[string]int{m.now()} })
	case 13:
		n := d.roll(9) - 1
		f.Fuse(n)
		m.fuse = max(n, 0)
	case 14:
		n := d.roll(30) - 3
		f.Room(n)
		m.room = max(n, 0)
	case 15:
		dirs, more := d.roll(7)-1, d.roll(7)-1
		f.Crash(dirs, more)
		m.crash(dirs, more)
	}
	return api.OK, api.OK
}

// P4.1 to P4.3: long rows of thrown calls, all that is told behind each.
func TestModel(t *testing.T) {
	for seed := range 300 {
		d := dice(seed)
		f, m := fs.New(20), newModel(20)
		for step := range 300 {
			got, want := play(&d, f, m, step)
			if got != want {
				t.Fatalf("seed %d, step %d: error %d, want %d", seed, step, got, want)
			}
			if f.Used() != m.used() || f.Loose() != len(m.dirs)-1 || f.Down() != m.down {
				t.Fatalf("seed %d, step %d: Used %d, Loose %d, Down %t, want %d, %d, %t",
					seed, step, f.Used(), f.Loose(), f.Down(), m.used(), len(m.dirs)-1, m.down)
			}
			if m.down {
				continue
			}
			var pairs []string
			for _, name := range slices.Sorted(maps.Keys(m.now())) {
				pairs = append(pairs, name, m.files[m.now()[name]])
			}
			wantFiles(t, f, pairs...)
			if t.Failed() {
				t.Fatalf("seed %d, step %d", seed, step)
			}
		}
	}
}
