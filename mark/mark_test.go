package mark_test

import (
	"bytes"
	"encoding/binary"
	"hash/crc32"
	"math"
	"slices"
	"testing"

	"pillarbox/api"
	"pillarbox/mark"
)

// laid lays a mark's bytes by the chapter's words, whether it is good or not.
func laid(k api.Mark) []byte {
	var b []byte
	for _, n := range []int{k.Kind, k.Rcpt, k.N} {
		b = binary.BigEndian.AppendUint64(b, uint64(n))
	}
	return binary.BigEndian.AppendUint32(b, crc32.ChecksumIEEE(b))
}

// row lays many marks' bytes, one behind the other.
func row(list ...api.Mark) []byte {
	var b []byte
	for _, k := range list {
		b = append(b, laid(k)...)
	}
	return b
}

// marks are n good ones, none like the one ahead of it.
func marks(n int) []api.Mark {
	list := make([]api.Mark, n)
	for i := range list {
		list[i] = api.Mark{Kind: 1 + i%5, Rcpt: i % 8, N: i * i}
	}
	return list
}

// noMarks are those that are not good, each by one field alone.
func noMarks() []api.Mark {
	var list []api.Mark
	for _, n := range []int{-1, 0, 6, 7, 1<<32 + 1, 1 << 62, math.MinInt, math.MinInt + 1, math.MaxInt} {
		list = append(list, api.Mark{Kind: n})
	}
	for kind := 1; kind <= 5; kind++ {
		for _, n := range []int{-1, -8, 8, 9, 256, 1 << 32, 1 << 62, math.MinInt, math.MaxInt} {
			list = append(list, api.Mark{Kind: kind, Rcpt: n})
		}
		for _, n := range []int{-1, 1<<40 + 1, 1 << 41, 1 << 62, math.MinInt, math.MaxInt} {
			list = append(list, api.Mark{Kind: kind, N: n})
		}
	}
	return list
}

func wantDecoded(t *testing.T, b []byte, list []api.Mark) {
	t.Helper()
	got, n := mark.Decode(b)
	if !slices.Equal(got, list) || n != 28*len(list) {
		t.Errorf("Decode of %d bytes (%.60q) = %d marks (%.3v), %d, want %d (%.3v), %d",
			len(b), b, len(got), got[:min(len(got), 5)], n, len(list), list[:min(len(list), 5)], 28*len(list))
	}
}

// want holds Good, Encode and Decode to a mark that is good or is not.
func want(t *testing.T, good bool, k api.Mark) {
	t.Helper()
	if mark.Good(k) != good {
		t.Errorf("Good(%+v) = %v", k, !good)
	}
	b, ok := mark.Encode(k)
	if good {
		if !ok || !bytes.Equal(b, laid(k)) {
			t.Errorf("Encode(%+v) = %v, %v, want %v, true", k, b, ok, laid(k))
		}
		wantDecoded(t, laid(k), []api.Mark{k})
		return
	}
	if ok || len(b) != 0 {
		t.Errorf("Encode(%+v) = %v, %v, want nothing, false", k, b, ok)
	}
	wantDecoded(t, laid(k), nil)
}

// field is a value of a field, and whether a good mark may have it.
type field struct {
	n    int
	good bool
}

func kinds() []field {
	return []field{
		{-1, false}, {0, false}, {1, true}, {2, true}, {3, true}, {4, true}, {5, true}, {6, false}, {7, false},
		{-5, false}, {256 + 1, false}, {1<<32 + 1, false}, {1 << 62, false}, {1<<62 + 1, false},
		{math.MinInt, false}, {math.MinInt + 1, false}, {math.MaxInt, false},
	}
}

func rcpts() []field {
	return []field{
		{-1, false}, {0, true}, {1, true}, {6, true}, {7, true}, {8, false}, {9, false},
		{-7, false}, {256, false}, {1 << 32, false}, {1 << 62, false}, {1<<62 + 1, false},
		{math.MinInt, false}, {math.MaxInt, false},
	}
}

func times() []field {
	return []field{
		{-1, false}, {0, true}, {1, true}, {1 << 32, true}, {1<<40 - 1, true}, {1 << 40, true}, {1<<40 + 1, false},
		{-1 << 40, false}, {1 << 41, false}, {1 << 62, false}, {1<<62 + 1, false},
		{math.MinInt, false}, {math.MaxInt, false},
	}
}

func TestGoodKind(t *testing.T) {
	for _, kind := range kinds() {
		want(t, kind.good, api.Mark{Kind: kind.n, Rcpt: 2, N: 3})
	}
	want(t, false, api.Mark{})
}

func TestGoodRcpt(t *testing.T) {
	for _, rcpt := range rcpts() {
		want(t, rcpt.good, api.Mark{Kind: api.Sent, Rcpt: rcpt.n, N: 3})
	}
}

func TestGoodN(t *testing.T) {
	for _, time := range times() {
		want(t, time.good, api.Mark{Kind: api.Defer, Rcpt: 2, N: time.n})
	}
}

// TestGoodTogether: the edges of all fields, each with each.
func TestGoodTogether(t *testing.T) {
	for _, kind := range kinds() {
		for _, rcpt := range rcpts() {
			for _, time := range times() {
				want(t, kind.good && rcpt.good && time.good, api.Mark{Kind: kind.n, Rcpt: rcpt.n, N: time.n})
			}
		}
	}
	for _, k := range noMarks() {
		want(t, false, k)
	}
}

// TestEncodeByHand: marks byte by byte. Their sums were worked out apart.
func TestEncodeByHand(t *testing.T) {
	for _, c := range []struct {
		k api.Mark
		b []byte
	}{
		{api.Mark{Kind: api.Failed, Rcpt: 5, N: 0x0102030405}, []byte{
			0, 0, 0, 0, 0, 0, 0, 3, 0, 0, 0, 0, 0, 0, 0, 5, 0, 0, 0, 1, 2, 3, 4, 5, 59, 229, 186, 2,
		}},
		{api.Mark{Kind: api.Try}, []byte{
			0, 0, 0, 0, 0, 0, 0, 1, 0, 0, 0, 0, 0, 0, 0, 0, 0, 0, 0, 0, 0, 0, 0, 0, 36, 103, 1, 99,
		}},
		{api.Mark{Kind: api.Defer, Rcpt: 7, N: 1 << 40}, []byte{
			0, 0, 0, 0, 0, 0, 0, 4, 0, 0, 0, 0, 0, 0, 0, 7, 0, 0, 1, 0, 0, 0, 0, 0, 127, 244, 83, 131,
		}},
		{api.Mark{Kind: api.Crash, Rcpt: 2, N: 258}, []byte{
			0, 0, 0, 0, 0, 0, 0, 5, 0, 0, 0, 0, 0, 0, 0, 2, 0, 0, 0, 0, 0, 0, 1, 2, 142, 140, 94, 71,
		}},
	} {
		got, ok := mark.Encode(c.k)
		if !ok || !bytes.Equal(got, c.b) {
			t.Errorf("Encode(%+v) = %v, %v, want %v, true", c.k, got, ok, c.b)
		}
		wantDecoded(t, c.b, []api.Mark{c.k})
	}
}

func TestDecodeNothing(t *testing.T) {
	wantDecoded(t, nil, nil)
	wantDecoded(t, []byte{}, nil)
	wantDecoded(t, laid(api.Mark{Kind: api.Try})[:0], nil)
	for n := range 100 {
		wantDecoded(t, make([]byte, n), nil)
		wantDecoded(t, bytes.Repeat([]byte{255}, n), nil)
	}
	wantDecoded(t, []byte("hello, these are no bytes of any marks at all\n"), nil)
}

// behind are bytes that no mark begins with.
func behind() [][]byte {
	return [][]byte{
		nil, {0}, {255}, {1, 2}, make([]byte, 27), make([]byte, 28), make([]byte, 100),
		bytes.Repeat([]byte{255}, 100), []byte("hello"), laid(api.Mark{Kind: api.Try})[:27],
		laid(api.Mark{Kind: api.Try})[1:], laid(api.Mark{}), make([]byte, 1<<20),
	}
}

// TestThereAndBack: what Encode answers, one behind the other, whatever
// stands behind.
func TestThereAndBack(t *testing.T) {
	for n := range 20 {
		var b []byte
		for _, k := range marks(n) {
			one, ok := mark.Encode(k)
			if !ok {
				t.Fatalf("Encode(%+v) is false", k)
			}
			b = append(b, one...)
		}
		for _, more := range behind() {
			wantDecoded(t, append(bytes.Clone(b), more...), marks(n))
		}
	}
	same := slices.Repeat([]api.Mark{{Kind: api.Try, Rcpt: 3}}, 9)
	wantDecoded(t, row(same...), same)
	turned := marks(9)
	slices.Reverse(turned)
	wantDecoded(t, row(turned...), turned)
}

// three are marks whose numbers have all sorts of bytes.
func three() []api.Mark {
	return []api.Mark{
		{Kind: api.Try, Rcpt: 6}, {Kind: api.Defer, Rcpt: 7, N: 1<<40 - 1}, {Kind: api.Sent, N: 0x0102030405},
	}
}

// TestDecodeCut: three marks cut at every place, with nothing behind and with
// other bytes, whole marks among them.
func TestDecodeCut(t *testing.T) {
	b := row(three()...)
	for n := range len(b) + 1 {
		whole := three()[:n/28]
		wantDecoded(t, b[:n], whole)
		wantDecoded(t, b[:n:n], whole)
		if n%28 == 0 {
			continue
		}
		for _, more := range [][]byte{make([]byte, 60), bytes.Repeat([]byte{255}, 60), b} {
			wantDecoded(t, append(bytes.Clone(b[:n]), more...), whole)
		}
		wantDecoded(t, b[n:], nil)
	}
}

// TestDecodeTurned: each byte of three marks turned into each other.
func TestDecodeTurned(t *testing.T) {
	b := row(three()...)
	for at := range b {
		for by := 1; by < 256; by++ {
			turned := bytes.Clone(b)
			turned[at] ^= byte(by)
			wantDecoded(t, turned, three()[:at/28])
		}
	}
}

// TestDecodeSum: the four bytes' order, and of what the sum is.
func TestDecodeSum(t *testing.T) {
	b := row(three()...)
	inner := b[28:52]
	right := crc32.ChecksumIEEE(inner)
	sums := []uint32{
		0, math.MaxUint32, ^right, right + 1, right ^ 1<<31,
		crc32.ChecksumIEEE(b[:52]), crc32.ChecksumIEEE(b[:24]), crc32.ChecksumIEEE(b[28:51]),
		crc32.ChecksumIEEE(append(bytes.Clone(inner), 0)), crc32.ChecksumIEEE(nil),
	}
	for _, sum := range sums {
		wrong := bytes.Clone(b)
		binary.BigEndian.PutUint32(wrong[52:], sum)
		wantDecoded(t, wrong, three()[:1])
	}
	wrong := bytes.Clone(b)
	binary.LittleEndian.PutUint32(wrong[52:], right)
	wantDecoded(t, wrong, three()[:1])
}

// TestDecodeNotGood: a mark that is not good, with a right sum, at each place.
func TestDecodeNotGood(t *testing.T) {
	for _, k := range noMarks() {
		for at := range 4 {
			list := slices.Insert(three(), at, k)
			wantDecoded(t, row(list...), three()[:at])
		}
	}
}

// TestDecodeHighBits: each bit of each number turned, the sum being right:
// only what is a good mark then is answered.
func TestDecodeHighBits(t *testing.T) {
	for _, k := range append(marks(40), three()...) {
		for bit := range 64 {
			for _, turned := range []api.Mark{
				{Kind: k.Kind ^ 1<<bit, Rcpt: k.Rcpt, N: k.N},
				{Kind: k.Kind, Rcpt: k.Rcpt ^ 1<<bit, N: k.N},
				{Kind: k.Kind, Rcpt: k.Rcpt, N: k.N ^ 1<<bit},
			} {
				good := turned.Kind >= 1 && turned.Kind <= 5 && turned.Rcpt >= 0 && turned.Rcpt < 8 &&
					turned.N >= 0 && turned.N <= 1<<40
				list := []api.Mark{k}
				if good {
					list = []api.Mark{k, turned, k}
				}
				wantDecoded(t, row(k, turned, k), list)
			}
		}
	}
}

func TestDecodeMaxMarks(t *testing.T) {
	for _, n := range []int{4095, 4096, 4097, 4100, 9000} {
		list := marks(n)
		b := row(list...)
		wantDecoded(t, b, list[:min(n, 4096)])
		wantDecoded(t, append(b, "more"...), list[:min(n, 4096)])
	}
}

// TestDecodeMaxMarksCut: the last one that counts is cut, or is not good.
func TestDecodeMaxMarksCut(t *testing.T) {
	list := marks(4097)
	b := row(list...)
	wantDecoded(t, b[:4096*28-1], list[:4095])
	wantDecoded(t, b[:4096*28+27], list[:4096])
	b[4096*28-1] ^= 1
	wantDecoded(t, b, list[:4095])
}

func wantFates(t *testing.T, n int, list []api.Mark, fates []api.Fate) {
	t.Helper()
	if got := mark.Fates(n, list); !slices.Equal(got, fates) {
		t.Errorf("Fates(%d, %.10v) = %+v, want %+v", n, list, got, fates)
	}
}

// TestFatesExample: the chapter's example.
func TestFatesExample(t *testing.T) {
	wantFates(t, 1, []api.Mark{{Kind: api.Try}, {Kind: api.Sent}}, []api.Fate{{State: api.Delivered, Tries: 1}})
}

func TestFatesCount(t *testing.T) {
	var all []api.Mark
	open := make([]api.Fate, 8)
	for i := range open {
		all = append(all, api.Mark{Kind: api.Try, Rcpt: i})
		open[i].Open = true
	}
	for _, c := range []struct{ n, have int }{
		{math.MinInt, 0}, {-100, 0}, {-1, 0}, {0, 0}, {1, 1}, {2, 2}, {7, 7}, {8, 8}, {9, 8}, {100, 8},
		{1 << 32, 8}, {1<<32 + 1, 8}, {math.MaxInt, 8},
	} {
		wantFates(t, c.n, nil, make([]api.Fate, c.have))
		wantFates(t, c.n, []api.Mark{}, make([]api.Fate, c.have))
		wantFates(t, c.n, all, open[:c.have])
	}
}

// starts are marks that bring one recipient to each sort of fate, and that
// fate.
func starts() []struct {
	list []api.Mark
	fate api.Fate
} {
	try, crash, later := api.Mark{Kind: api.Try}, api.Mark{Kind: api.Crash}, api.Mark{Kind: api.Defer, N: 9}
	sent, failed := api.Mark{Kind: api.Sent}, api.Mark{Kind: api.Failed}
	return []struct {
		list []api.Mark
		fate api.Fate
	}{
		{nil, api.Fate{}},
		{[]api.Mark{try}, api.Fate{Open: true}},
		{[]api.Mark{try, later}, api.Fate{Tries: 1, Next: 9}},
		{[]api.Mark{try, later, try}, api.Fate{Tries: 1, Next: 9, Open: true}},
		{[]api.Mark{try, crash}, api.Fate{Crashes: 1}},
		{[]api.Mark{try, crash, try}, api.Fate{Crashes: 1, Open: true}},
		{[]api.Mark{sent}, api.Fate{State: api.Delivered}},
		{[]api.Mark{failed}, api.Fate{State: api.Bounced}},
		{[]api.Mark{try, sent}, api.Fate{State: api.Delivered, Tries: 1}},
		{[]api.Mark{try, failed}, api.Fate{State: api.Bounced, Tries: 1}},
		{[]api.Mark{try, later, try, crash, failed}, api.Fate{State: api.Bounced, Tries: 1, Next: 9, Crashes: 1}},
	}
}

// after is a fate behind one more mark, by the chapter's words.
func after(f api.Fate, k api.Mark) api.Fate {
	one := 0
	if f.Open {
		one = 1
	}
	switch {
	case f.State != api.Waiting:
		return f
	case k.Kind == api.Try:
		return api.Fate{Tries: f.Tries, Next: f.Next, Crashes: f.Crashes, Open: true}
	case k.Kind == api.Crash:
		return api.Fate{Tries: f.Tries, Next: f.Next, Crashes: f.Crashes + 1}
	case k.Kind == api.Sent:
		return api.Fate{State: api.Delivered, Tries: f.Tries + one, Next: f.Next, Crashes: f.Crashes}
	case k.Kind == api.Failed:
		return api.Fate{State: api.Bounced, Tries: f.Tries + one, Next: f.Next, Crashes: f.Crashes}
	default:
		return api.Fate{Tries: f.Tries + one, Next: k.N, Crashes: f.Crashes}
	}
}

// TestFatesEachMark: each kind of mark on each sort of fate, of each recipient.
func TestFatesEachMark(t *testing.T) {
	for _, start := range starts() {
		for kind := 1; kind <= 5; kind++ {
			for _, n := range []int{0, 1, 5, 9, 10, 1 << 40} {
				for rcpt := range 8 {
					list := append(slices.Clone(start.list), api.Mark{Kind: kind, N: n})
					for i := range list {
						list[i].Rcpt = rcpt
					}
					fates := make([]api.Fate, 8)
					fates[rcpt] = start.fate
					wantFates(t, 8, list[:len(list)-1], fates)
					fates[rcpt] = after(start.fate, list[len(list)-1])
					wantFates(t, 8, list, fates)
					wantFates(t, rcpt+1, list, fates[:rcpt+1])
				}
			}
		}
	}
}

// TestFatesWaiting: each kind on a recipient that waits, written out.
func TestFatesWaiting(t *testing.T) {
	for _, c := range []struct {
		kind       int
		shut, open api.Fate
	}{
		{api.Try, api.Fate{Open: true}, api.Fate{Open: true}},
		{api.Sent, api.Fate{State: api.Delivered}, api.Fate{State: api.Delivered, Tries: 1}},
		{api.Failed, api.Fate{State: api.Bounced}, api.Fate{State: api.Bounced, Tries: 1}},
		{api.Defer, api.Fate{Next: 5}, api.Fate{Next: 5, Tries: 1}},
		{api.Crash, api.Fate{Crashes: 1}, api.Fate{Crashes: 1}},
	} {
		k := api.Mark{Kind: c.kind, N: 5}
		wantFates(t, 1, []api.Mark{k}, []api.Fate{c.shut})
		wantFates(t, 1, []api.Mark{{Kind: api.Try, N: 7}, k}, []api.Fate{c.open})
	}
}

func TestFatesEnded(t *testing.T) {
	for _, state := range []struct{ kind, state int }{{api.Sent, api.Delivered}, {api.Failed, api.Bounced}} {
		for kind := 1; kind <= 5; kind++ {
			end, k := api.Mark{Kind: state.kind}, api.Mark{Kind: kind, N: 5}
			wantFates(t, 1, []api.Mark{end, k}, []api.Fate{{State: state.state}})
			wantFates(t, 1, []api.Mark{{Kind: api.Try}, end, k, k}, []api.Fate{{State: state.state, Tries: 1}})
			wantFates(t, 1, []api.Mark{end, {Kind: api.Try}, k}, []api.Fate{{State: state.state}})
		}
	}
}

// TestFatesDefer: with N of 0, and twice: the last one counts, the least too.
func TestFatesDefer(t *testing.T) {
	try := api.Mark{Kind: api.Try}
	later := func(n int) api.Mark { return api.Mark{Kind: api.Defer, N: n} }
	wantFates(t, 1, []api.Mark{later(0)}, []api.Fate{{}})
	wantFates(t, 1, []api.Mark{try, later(0)}, []api.Fate{{Tries: 1}})
	wantFates(t, 1, []api.Mark{later(5), later(0)}, []api.Fate{{}})
	wantFates(t, 1, []api.Mark{later(5), later(9)}, []api.Fate{{Next: 9}})
	wantFates(t, 1, []api.Mark{later(9), later(5)}, []api.Fate{{Next: 5}})
	wantFates(t, 1, []api.Mark{later(1 << 40), later(5)}, []api.Fate{{Next: 5}})
	wantFates(t, 1, []api.Mark{try, later(5), later(9)}, []api.Fate{{Tries: 1, Next: 9}})
	wantFates(t, 1, []api.Mark{try, later(9), try, later(5)}, []api.Fate{{Tries: 2, Next: 5}})
	wantFates(t, 1, []api.Mark{try, try, later(5)}, []api.Fate{{Tries: 1, Next: 5}})
	wantFates(t, 1, []api.Mark{try, later(5), {Kind: api.Crash, N: 9}, {Kind: api.Try, N: 9}}, []api.Fate{{Tries: 1, Next: 5, Crashes: 1, Open: true}})
}

// TestFatesMany: Tries and Crashes go on, far above what is told of at once.
func TestFatesMany(t *testing.T) {
	var list []api.Mark
	for range 5000 {
		list = append(list, api.Mark{Kind: api.Try}, api.Mark{Kind: api.Crash}, api.Mark{Kind: api.Try}, api.Mark{Kind: api.Defer, N: 3})
	}
	wantFates(t, 1, list, []api.Fate{{Tries: 5000, Next: 3, Crashes: 5000}})
	wantFates(t, 1, append(list, api.Mark{Kind: api.Sent}), []api.Fate{{State: api.Delivered, Tries: 5000, Next: 3, Crashes: 5000}})
}

// TestFatesOthers: marks of recipients that are not among the n.
func TestFatesOthers(t *testing.T) {
	for n := range 8 {
		for rcpt := n; rcpt < 8; rcpt++ {
			for kind := 1; kind <= 5; kind++ {
				wantFates(t, n, []api.Mark{{Kind: kind, Rcpt: rcpt, N: 5}}, make([]api.Fate, n))
			}
		}
	}
	list := []api.Mark{{Kind: api.Try, Rcpt: 1}, {Kind: api.Try}, {Kind: api.Sent, Rcpt: 1}, {Kind: api.Defer, N: 4}, {Kind: api.Crash, Rcpt: 7}}
	wantFates(t, 1, list, []api.Fate{{Tries: 1, Next: 4}})
}

// TestFatesNotGood: marks that are not good, at each place among others.
func TestFatesNotGood(t *testing.T) {
	for _, wrong := range noMarks() {
		wantFates(t, 8, []api.Mark{wrong}, make([]api.Fate, 8))
		for _, start := range starts() {
			for at := range len(start.list) + 1 {
				wantFates(t, 1, slices.Insert(slices.Clone(start.list), at, wrong), []api.Fate{start.fate})
			}
		}
	}
}

// TestFatesTwo: two recipients whose marks stand among each other.
func TestFatesTwo(t *testing.T) {
	list := []api.Mark{
		{Kind: api.Try, Rcpt: 0}, {Kind: api.Try, Rcpt: 1}, {Kind: api.Defer, Rcpt: 0, N: 6}, {Kind: api.Crash, Rcpt: 1},
		{Kind: api.Try, Rcpt: 1}, {Kind: api.Try, Rcpt: 0}, {Kind: api.Sent, Rcpt: 1}, {Kind: api.Crash, Rcpt: 1},
		{Kind: api.Failed, Rcpt: 0}, {Kind: api.Defer, Rcpt: 1, N: 8}, {Kind: api.Sent, Rcpt: 0},
	}
	wantFates(t, 2, list, []api.Fate{
		{State: api.Bounced, Tries: 2, Next: 6},
		{State: api.Delivered, Tries: 1, Crashes: 1},
	})
}

// told is a recipient's fate by its marks as a whole, not one by one: what
// ended it is the last that counts; a try counts where the next mark ends it.
func told(list []api.Mark) api.Fate {
	var f api.Fate
	stop := slices.IndexFunc(list, func(k api.Mark) bool { return k.Kind == api.Sent || k.Kind == api.Failed })
	if stop >= 0 {
		f.State = map[int]int{api.Sent: api.Delivered, api.Failed: api.Bounced}[list[stop].Kind]
		list = list[:stop+1]
	}
	f.Open = len(list) > 0 && list[len(list)-1].Kind == api.Try
	for i, k := range list {
		switch k.Kind {
		case api.Try:
			continue
		case api.Crash:
			f.Crashes++
			continue
		case api.Defer:
			f.Next = k.N
		}
		if i > 0 && list[i-1].Kind == api.Try {
			f.Tries++
		}
	}
	return f
}

// TestFatesShortRows: all rows of up to five marks of two recipients.
func TestFatesShortRows(t *testing.T) {
	pieces := []api.Mark{
		{Kind: api.Try}, {Kind: api.Sent, N: 2}, {Kind: api.Failed, N: 3}, {Kind: api.Defer, N: 4}, {Kind: api.Crash, N: 5},
		{Kind: api.Try, Rcpt: 1}, {Kind: api.Sent, Rcpt: 1}, {Kind: api.Failed, Rcpt: 1}, {Kind: api.Defer, Rcpt: 1}, {Kind: api.Crash, Rcpt: 1},
	}
	for length, rows := 0, 1; length <= 5; length, rows = length+1, rows*len(pieces) {
		for number := range rows {
			var list []api.Mark
			var own [2][]api.Mark
			for range length {
				k := pieces[number%len(pieces)]
				number /= len(pieces)
				list = append(list, k)
				own[k.Rcpt] = append(own[k.Rcpt], k)
			}
			wantFates(t, 2, list, []api.Fate{told(own[0]), told(own[1])})
		}
	}
}

// R4: what is handed in stays as it is, spare room included.
func TestBytesAreNotChanged(t *testing.T) {
	b := row(three()...)
	for _, size := range []int{0, 5, 24, 28, 40, 56, len(b) - 1, len(b), len(b) + 7} {
		room := append(bytes.Clone(b), "some room behind"...)
		was := bytes.Clone(room)
		list, _ := mark.Decode(room[:size])
		clear(list[:cap(list)])
		if !bytes.Equal(room, was) {
			t.Errorf("with %d bytes %q became %q", size, was, room)
		}
	}
}

func TestMarksAreNotChanged(t *testing.T) {
	list := append(marks(20), noMarks()...)
	was := slices.Clone(list)
	for n := range 10 {
		fates := mark.Fates(n, list[:15])
		clear(fates[:cap(fates)])
	}
	if !slices.Equal(list, was) {
		t.Errorf("the marks became %v", list)
	}
}

// R4: what was answered stays as it is, when what was handed in is changed.
func TestAnswersAreKept(t *testing.T) {
	b := row(three()...)
	list, _ := mark.Decode(b)
	for i := range b {
		b[i] = '!'
	}
	if !slices.Equal(list, three()) {
		t.Errorf("the marks became %v", list)
	}
	given := []api.Mark{{Kind: api.Try}, {Kind: api.Sent}}
	fates := mark.Fates(1, given)
	clear(given)
	if !slices.Equal(fates, []api.Fate{{State: api.Delivered, Tries: 1}}) {
		t.Errorf("the fates became %v", fates)
	}
}

// R4: no two answers share their memory.
func TestAnswersAreNew(t *testing.T) {
	k := three()[1]
	one, _ := mark.Encode(k)
	two, _ := mark.Encode(k)
	clear(one[:cap(one)])
	if !bytes.Equal(two, laid(k)) {
		t.Errorf("the other bytes became %v", two)
	}
	want(t, true, k)

	b := row(three()...)
	first, _ := mark.Decode(b)
	second, _ := mark.Decode(b)
	clear(first[:cap(first)])
	if !slices.Equal(second, three()) {
		t.Errorf("the other marks became %v", second)
	}
	wantDecoded(t, b, three())

	list := []api.Mark{{Kind: api.Try}, {Kind: api.Sent}}
	here := mark.Fates(2, list)
	there := mark.Fates(2, list)
	clear(here[:cap(here)])
	if !slices.Equal(there, []api.Fate{{State: api.Delivered, Tries: 1}, {}}) {
		t.Errorf("the other fates became %v", there)
	}
}
