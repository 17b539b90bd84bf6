package ids_test

import (
	"fmt"
	"math"
	"slices"
	"testing"

	"pillarbox/api"
	"pillarbox/fs"
	"pillarbox/ids"
)

// must fails the test at once if a call that prepares it has an error.
func must(t *testing.T, errs ...api.Errno) {
	t.Helper()
	for i, e := range errs {
		if e != api.OK {
			t.Fatalf("call %d of these: error %d", i, e)
		}
	}
}

// disk is one whose names are all sure.
func disk(t *testing.T, names ...string) *fs.FS {
	t.Helper()
	f := fs.New(100)
	for _, name := range names {
		must(t, f.Create(name))
	}
	must(t, f.DirSync())
	return f
}

// file is a file's name, by other means than Name.
func file(n int) string { return fmt.Sprintf("next-%09d", n) }

// files are the files of numbers.
func files(list ...int) []string {
	var names []string
	for _, n := range list {
		names = append(names, file(n))
	}
	return names
}

// open is an Ids of a disk whose power is there.
func open(t *testing.T, f *fs.FS) *ids.Ids {
	t.Helper()
	x, e := ids.Open(f)
	if e != api.OK || x == nil {
		t.Fatalf("Open = %v, %d", x, e)
	}
	return x
}

func wantLast(t *testing.T, x *ids.Ids, want int) {
	t.Helper()
	if got := x.Last(); got != want {
		t.Errorf("Last() = %d, want %d", got, want)
	}
}

// wantNext: a number is given, and is Last.
func wantNext(t *testing.T, x *ids.Ids, want int) {
	t.Helper()
	if n, e := x.Next(); n != want || e != api.OK {
		t.Errorf("Next() = %d, %d, want %d", n, e, want)
	}
	wantLast(t, x, want)
}

// wantNone: no number is given, and Last is as it was.
func wantNone(t *testing.T, x *ids.Ids, want api.Errno) {
	t.Helper()
	last := x.Last()
	if n, e := x.Next(); n != 0 || e != want {
		t.Errorf("Next() = %d, %d, want 0, %d", n, e, want)
	}
	wantLast(t, x, last)
}

func wantFiles(t *testing.T, f *fs.FS, want ...string) {
	t.Helper()
	if got := f.List(); !slices.Equal(got, want) {
		t.Errorf("List() = %q, want %q", got, want)
	}
}

// The chapter's words: Batch, and the name of the file of n.
func TestName(t *testing.T) {
	if ids.Batch != 16 {
		t.Error("Batch is", ids.Batch)
	}
	for n, want := range map[int]string{
		0:               "next-000000000",
		1:               "next-000000001",
		9:               "next-000000009",
		10:              "next-000000010",
		16:              "next-000000016",
		12345678:        "next-012345678",
		123456789:       "next-123456789",
		100000000:       "next-100000000",
		api.MaxID - 1:   "next-999999998",
		api.MaxID:       "next-999999999",
		api.MaxID + 1:   "",
		1999999999:      "",
		-1:              "",
		-2:              "",
		-16:             "",
		-api.MaxID:      "",
		-api.MaxID - 1:  "",
		-api.MaxID - 2:  "",
		1 << 32:         "",
		1<<32 + 5:       "",
		math.MinInt:     "",
		math.MinInt + 1: "",
		math.MaxInt:     "",
		math.MaxInt - 1: "",
	} {
		if got := ids.Name(n); got != want {
			t.Errorf("Name(%d) = %q, want %q", n, got, want)
		}
	}
	for n := 0; n <= api.MaxID; n += 1 + n/7 {
		if got := ids.Name(n); got != file(n) {
			t.Errorf("Name(%d) = %q, want %q", n, got, file(n))
		}
	}
}

// P13.1: no disk, and one whose power is gone.
func TestOpenErrors(t *testing.T) {
	if x, e := ids.Open(nil); x != nil || e != api.ErrArg {
		t.Errorf("Open(nil) = %v, %d", x, e)
	}
	for _, names := range [][]string{nil, {"a"}, files(7), files(16, 32), files(api.MaxID)} {
		f := disk(t, names...)
		f.Fuse(0)
		if e := f.DirSync(); e != api.ErrDown {
			t.Fatal("the fuse:", e)
		}
		if x, e := ids.Open(f); x != nil || e != api.ErrDown {
			t.Errorf("%q, no power: Open = %v, %d", names, x, e)
		}
		f.Crash(0, 0)
		open(t, f)
		wantFiles(t, f, names...)
	}
}

// P13.1: what the files say, and where the numbers go on: the greatest counts,
// and is the one that is unlinked.
func TestOpen(t *testing.T) {
	for _, c := range []struct {
		names []string
		last  int
		then  []string
	}{
		{nil, 0, files(16)},
		{[]string{"a", "i-000000009"}, 0, []string{"a", "i-000000009", file(16)}},
		{files(0), 0, files(16)},
		{files(1), 1, files(17)},
		{files(5), 5, files(21)},
		{files(16), 16, files(32)},
		{files(123456789), 123456789, files(123456805)},
		{files(0, 1), 1, files(0, 17)},
		{files(16, 32), 32, files(16, 48)},
		{files(9, 10), 10, files(9, 26)},
		{files(2, 100000000), 100000000, files(2, 100000016)},
		{files(1, 2, 3, 4, 40, 50, 51), 51, files(1, 2, 3, 4, 40, 50, 67)},
		{append(append([]string{"a", "i-000000099"}, files(3, 4)...), "zz"), 4,
			append(append([]string{"a", "i-000000099"}, files(3, 20)...), "zz")},
		{append([]string{"next-"}, files(7)...), 7, append([]string{"next-"}, files(23)...)},
	} {
		for _, turned := range []bool{false, true} {
			names := slices.Clone(c.names)
			if turned {
				slices.Reverse(names)
			}
			f := disk(t, names...)
			x := open(t, f)
			wantLast(t, x, c.last)
			wantFiles(t, f, c.names...)
			wantNext(t, x, c.last+1)
			wantFiles(t, f, c.then...)
			wantNext(t, x, c.last+2)
			wantFiles(t, f, c.then...)
			if t.Failed() {
				t.Fatalf("%q", names)
			}
		}
	}
}

// others are names that are no file of a number, though they look like one.
var others = []string{
	"next-", "next", "n", "next-7", "next-00000007", "next-99999999", "next-0000000007", "next-9999999999", "next-0999999999",
	"next-00000000000000000000000000000000000000000000000000000000000000000000000007",
	"next-+00000007", "next--00000007", "next-+000000007", "next--000000007", "next-+7", "next--0", "next-00000000-",
	"next-00000000x", "next-x00000007", "next-0000x0007", "next-0x0000007", "next-0b0000001", "next-0o0000007", "next-00000001e", "next-0000001e7",
	"next-0000_0007", "next-00000.007", "next-7.0000000", "next-00000000:", "next-0000000", "next-abcdefghi", "next-$%&'()*+,",
	"next-000000007x", "next-000000007-", "next-000000007.", "next-000000007,8", "xnext-000000007", "-next-000000007", "next-next-000000007",
	"NEXT-000000007", "Next-000000007", "nexT-000000007", "next_000000007", "next.000000007", "next000000007", "nex-000000007", "ext-000000007",
	"000000007", "-000000007", "7", "i-000000007", "t-000000007", "a-999999999",
}

// P13.1: names beside the files of numbers count for nothing, and are let
// alone.
func TestOthers(t *testing.T) {
	for _, name := range others {
		f := disk(t, name)
		x := open(t, f)
		wantLast(t, x, 0)
		for n := 1; n <= 33; n++ {
			wantNext(t, x, n)
		}
		want := append(files(48), name)
		slices.Sort(want)
		wantFiles(t, f, want...)

		f = disk(t, name, file(3))
		x = open(t, f)
		wantLast(t, x, 3)
		wantNext(t, x, 4)
		want = append(files(19), name)
		slices.Sort(want)
		wantFiles(t, f, want...)
		if t.Failed() {
			t.Fatalf("beside %q", name)
		}
	}
	f := disk(t, others...)
	wantNext(t, open(t, f), 1)
	if got := len(f.List()); got != len(others)+1 {
		t.Errorf("%d files of %d others and one of a number", got, len(others))
	}
}

// P13.1: the name counts, not the bytes; and no file's bytes are touched.
func TestBytes(t *testing.T) {
	f := disk(t, "a", file(3), file(4))
	for _, name := range f.List() {
		must(t, f.Append(name, []byte("000000077")), f.Sync(name))
	}
	x := open(t, f)
	for n := 5; n <= 40; n++ {
		wantNext(t, x, n)
	}
	wantFiles(t, f, append([]string{"a"}, files(3, 52)...)...)
	for _, name := range []string{"a", file(3)} {
		if b, e := f.Read(name); e != api.OK || string(b) != "000000077" {
			t.Errorf("Read(%q) = %q, %d", name, b, e)
		}
	}
	if b, e := f.Read(file(52)); e != api.OK || len(b) != 0 {
		t.Errorf("Read(%q) = %q, %d", file(52), b, e)
	}
}

// P13.1: Open writes nothing, and neither does Last.
func TestOpenWritesNothing(t *testing.T) {
	for _, names := range [][]string{nil, {"a"}, files(7), files(16, 32)} {
		f := disk(t, names...)
		f.Fuse(0)
		for range 3 {
			open(t, f).Last()
		}
		if f.Down() || f.Loose() != 0 {
			t.Errorf("%q: Down() = %t, Loose() = %d", names, f.Down(), f.Loose())
		}
		wantFiles(t, f, names...)
	}
}

// P13.2: the chapter's example.
func TestExample(t *testing.T) {
	f := fs.New(100)
	wantNext(t, open(t, f), 1)
	f.Crash(0, 0)
	wantNext(t, open(t, f), 17)
}

// P13.2: batches, one behind the other, from each of the first numbers on; a
// file is made ahead of the first number of a batch, and not earlier.
func TestBatches(t *testing.T) {
	for start := range 40 {
		f := disk(t, file(start))
		x := open(t, f)
		wantLast(t, x, start)
		for i := range 5 * ids.Batch {
			wantNext(t, x, start+i+1)
			wantFiles(t, f, file(start+(i/16+1)*16))
		}
		wantLast(t, open(t, f), start+80)
	}
}

// P13.2: which calls of the disk the first Next of a batch makes, and in which
// order: it is stopped behind each of them, and a crash then keeps nothing
// that is loose, or all.
func TestCalls(t *testing.T) {
	for _, c := range []struct {
		names []string
		again [][2][]string // the files behind so many writes, and a crash
	}{
		{nil, [][2][]string{{nil, nil}, {nil, files(16)}, {files(16), files(16)}}},
		{[]string{"a"}, [][2][]string{{{"a"}, {"a"}}, {{"a"}, {"a", file(16)}}, {{"a", file(16)}, {"a", file(16)}}}},
		{files(0), [][2][]string{
			{files(0), files(0)}, {files(0), files(0, 16)}, {files(0, 16), files(0, 16)}, {files(0, 16), files(16)},
		}},
		{files(7), [][2][]string{
			{files(7), files(7)}, {files(7), files(7, 23)}, {files(7, 23), files(7, 23)}, {files(7, 23), files(23)},
		}},
		{files(2, 7), [][2][]string{
			{files(2, 7), files(2, 7)}, {files(2, 7), files(2, 7, 23)}, {files(2, 7, 23), files(2, 7, 23)}, {files(2, 7, 23), files(2, 23)},
		}},
	} {
		whole := len(c.again) - 1
		for writes := range whole + 3 {
			for all := range 2 {
				f := disk(t, c.names...)
				x := open(t, f)
				last := x.Last()
				f.Fuse(writes)
				if writes < whole {
					wantNone(t, x, api.ErrDown)
				} else {
					wantNext(t, x, last+1)
				}
				if f.Down() != (writes < whole) {
					t.Errorf("Down() = %t", f.Down())
				}
				for range writes - whole {
					must(t, f.DirSync())
				}
				if e := f.DirSync(); e != api.ErrDown {
					t.Errorf("the fuse: %d", e)
				}
				if writes <= whole {
					f.Crash(9*all, 0)
					wantFiles(t, f, c.again[writes][all]...)
				}
				if t.Failed() {
					t.Fatalf("%q, %d writes, all %d", c.names, writes, all)
				}
			}
		}
	}
}

// P13.2: which changes are loose behind a Next: the new name is none of them.
func TestLoose(t *testing.T) {
	f := disk(t)
	x := open(t, f)
	must(t, f.Create("a"), f.Create("b"))
	wantNext(t, x, 1)
	if f.Loose() != 0 {
		t.Errorf("behind the first batch: Loose() = %d", f.Loose())
	}
	for n := 2; n <= 16; n++ {
		must(t, f.Create(fmt.Sprint("c", n)))
		wantNext(t, x, n)
		if f.Loose() != n-1 {
			t.Errorf("behind %d: Loose() = %d", n, f.Loose())
		}
	}
	wantNext(t, x, 17)
	if f.Loose() != 1 {
		t.Errorf("behind the second batch: Loose() = %d", f.Loose())
	}
}

// P13.2: where the number is not above what the greatest file says, nothing is
// written: neither a fuse nor a full disk hurts.
func TestNoCalls(t *testing.T) {
	f := disk(t, file(3))
	x := open(t, f)
	wantNext(t, x, 4)
	for n := range api.MaxFiles - 1 {
		must(t, f.Create(fmt.Sprint("a", n)))
	}
	must(t, f.DirSync())
	f.Room(0)
	f.Fuse(0)
	for n := 5; n <= 19; n++ {
		wantNext(t, x, n)
		if f.Down() || f.Loose() != 0 {
			t.Fatalf("behind %d: Down() = %t, Loose() = %d", n, f.Down(), f.Loose())
		}
	}
	wantNone(t, x, api.ErrFull)
	if e := f.Unlink("a7"); e != api.ErrDown {
		t.Errorf("the fuse: %d", e)
	}
}

// P13.2: the power goes at each call of the first Next of the first batches:
// what is answered then and behind it, and what an Ids that is opened anew
// gives.
func TestFuse(t *testing.T) {
	for batch := range 4 {
		for writes := range 3 {
			if batch == 0 && writes == 2 {
				// There is no file that was the greatest: nothing is unlinked.
				continue
			}
			for _, dirs := range []int{0, 1, 2, 9} {
				f := disk(t)
				x := open(t, f)
				for n := range 16 * batch {
					wantNext(t, x, n+1)
				}
				must(t, f.DirSync())
				f.Fuse(writes)
				for range 3 {
					wantNone(t, x, api.ErrDown)
					wantLast(t, x, 16*batch)
				}
				f.Crash(dirs, 0)
				last := 16 * batch
				if writes == 2 || writes == 1 && dirs > 0 {
					last += 16
				}
				x = open(t, f)
				wantLast(t, x, last)
				wantNext(t, x, last+1)
				if t.Failed() {
					t.Fatalf("batch %d, %d writes, Crash(%d, 0)", batch, writes, dirs)
				}
			}
		}
	}
}

// P13.2: power that goes otherwise, in the midst of a batch and at its ends.
func TestDown(t *testing.T) {
	for n := range 40 {
		f := disk(t)
		x := open(t, f)
		for i := range n {
			wantNext(t, x, i+1)
		}
		f.Fuse(0)
		if e := f.DirSync(); e != api.ErrDown {
			t.Fatal("the fuse:", e)
		}
		for range 3 {
			wantNone(t, x, api.ErrDown)
			wantLast(t, x, n)
		}
	}
}

// P13.2: a disk that has as many files as it may.
func TestFull(t *testing.T) {
	for _, names := range [][]string{nil, files(0), files(5), files(5, 9)} {
		f := disk(t, names...)
		x := open(t, f)
		last := x.Last()
		for n := range api.MaxFiles - len(names) {
			must(t, f.Create(fmt.Sprint("a", n)))
		}
		before := f.List()
		must(t, f.DirSync())
		for range 3 {
			wantNone(t, x, api.ErrFull)
			wantLast(t, x, last)
			wantFiles(t, f, before...)
		}
		if f.Loose() != 0 || f.Down() {
			t.Errorf("%q: Loose() = %d, Down() = %t", names, f.Loose(), f.Down())
		}
		must(t, f.Unlink("a3"))
		wantNext(t, x, last+1)
		wantLast(t, open(t, f), last+16)
	}
}

// P13.2: it is files that a disk must have room for, not bytes.
func TestNoBytes(t *testing.T) {
	f := fs.New(0)
	x := open(t, f)
	for n := 1; n <= 50; n++ {
		wantNext(t, x, n)
	}
	f = disk(t)
	must(t, f.Create("a"), f.Append("a", []byte("123")))
	f.Room(1)
	wantNext(t, open(t, f), 1)
}

// P13.2: the last batches, from each number that is near the greatest.
func TestMaxID(t *testing.T) {
	for back := range 3*ids.Batch + 2 {
		start := api.MaxID - back
		f := disk(t, file(start))
		x := open(t, f)
		for i := range back {
			wantNext(t, x, start+i+1)
			wantFiles(t, f, file(min(start+(i/16+1)*16, api.MaxID)))
		}
		wantLast(t, x, api.MaxID)
		f.Fuse(0)
		for range 3 {
			wantNone(t, x, api.ErrFull)
			wantLast(t, x, api.MaxID)
		}
		if f.Down() {
			t.Error("ErrFull: the power is gone")
		}
		wantFiles(t, f, file(api.MaxID))

		x = open(t, f)
		wantLast(t, x, api.MaxID)
		wantNone(t, x, api.ErrFull)
		if t.Failed() {
			t.Fatalf("from %d", start)
		}
	}
}

// P13.2: a batch that is cut short by MaxID, and the power that goes in it.
func TestMaxIDFuse(t *testing.T) {
	for writes := range 4 {
		f := disk(t, file(api.MaxID-3))
		x := open(t, f)
		f.Fuse(writes)
		if writes < 3 {
			wantNone(t, x, api.ErrDown)
		} else {
			wantNext(t, x, api.MaxID-2)
		}
		f.Crash(0, 0)
		x = open(t, f)
		if writes < 2 {
			wantNext(t, x, api.MaxID-2)
			continue
		}
		wantNone(t, x, api.ErrFull)
		wantFiles(t, f, files(api.MaxID-3, api.MaxID)...)
	}
}

// P13.2: where both errors apply, no power goes ahead of MaxID.
func TestDownAtMaxID(t *testing.T) {
	f := disk(t, file(api.MaxID))
	x := open(t, f)
	wantNone(t, x, api.ErrFull)
	f.Fuse(0)
	if e := f.DirSync(); e != api.ErrDown {
		t.Fatal("the fuse:", e)
	}
	wantNone(t, x, api.ErrDown)
	wantLast(t, x, api.MaxID)
}

// P13.2's end: a nil *Ids. R1: one that Open did not make does not panic.
func TestNil(t *testing.T) {
	var x *ids.Ids
	for range 2 {
		wantNone(t, x, api.ErrArg)
		wantLast(t, x, 0)
	}
	x = new(ids.Ids)
	if n, e := x.Next(); n != 0 || e == api.OK || x.Last() != 0 {
		t.Errorf("Next of no object = %d, %d, Last() = %d", n, e, x.Last())
	}
}

// R5: two disks know nothing of each other.
func TestApart(t *testing.T) {
	one, two := disk(t), disk(t, file(500))
	x, y := open(t, one), open(t, two)
	for n := 1; n <= 20; n++ {
		wantNext(t, x, n)
		wantNext(t, y, 500+n)
	}
	one.Fuse(0)
	if e := one.DirSync(); e != api.ErrDown {
		t.Fatal("the fuse:", e)
	}
	wantNone(t, x, api.ErrDown)
	wantNext(t, y, 521)
	wantFiles(t, two, file(532))
	one.Crash(0, 0)
	wantFiles(t, one, files(16, 32)...)
}

// P13.2: opened anew, with no crash between, the numbers go on above the file:
// no Ids gives one that the one ahead of it gave.
func TestOpenAnew(t *testing.T) {
	f := disk(t)
	last := 0
	for n := range 40 {
		x := open(t, f)
		for range n {
			k, e := x.Next()
			if e != api.OK || k <= last {
				t.Fatalf("Next() = %d, %d behind %d", k, e, last)
			}
			last = k
		}
		if got := open(t, f).Last(); got != (last+15)/16*16 {
			t.Errorf("behind %d: Last() = %d", last, got)
		}
	}
}
