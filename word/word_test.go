package word_test

import (
	"bytes"
	"encoding/binary"
	"math"
	"testing"

	"pillarbox/word"
)

const top = 1 << 62

// item is something that is put and read: a number, or bytes.
type item struct {
	isNum bool
	n     int
	b     []byte
}

func num(n int) item     { return item{isNum: true, n: n} }
func text(s string) item { return item{b: []byte(s)} }

// row is n bytes that look unlike each other, the same at each run.
func row(n int) []byte {
	b := make([]byte, n)
	seed := uint32(n)*2654435761 + 1
	for i := range b {
		seed = seed*1664525 + 1013904223
		b[i] = byte(seed >> 24)
	}
	return b
}

// put writes items by a Writer.
func put(items ...item) *word.Writer {
	w := new(word.Writer)
	for _, it := range items {
		if it.isNum {
			w.Num(it.n)
		} else {
			w.Bytes(it.b)
		}
	}
	return w
}

// laid writes items by the chapter's words, without a Writer.
func laid(items ...item) []byte {
	b := []byte{}
	for _, it := range items {
		if it.isNum {
			b = binary.BigEndian.AppendUint64(b, uint64(it.n))
		} else {
			b = binary.BigEndian.AppendUint64(b, uint64(len(it.b)))
			b = append(b, it.b...)
		}
	}
	return b
}

func checkOut(t *testing.T, w *word.Writer, want []byte) {
	t.Helper()
	if got, ok := w.Out(); !ok || !bytes.Equal(got, want) {
		t.Errorf("Out() = %v, %v, want %v, true", got, ok, want)
	}
}

func checkNoOut(t *testing.T, w *word.Writer) {
	t.Helper()
	if got, ok := w.Out(); ok || len(got) != 0 {
		t.Errorf("Out() = %v, %v, want nothing, false", got, ok)
	}
}

func checkNum(t *testing.T, r *word.Reader, want int) {
	t.Helper()
	if got, ok := r.Num(); !ok || got != want {
		t.Errorf("Num() = %d, %v, want %d, true", got, ok, want)
	}
}

func checkBytes(t *testing.T, r *word.Reader, want []byte) {
	t.Helper()
	if got, ok := r.Bytes(); !ok || !bytes.Equal(got, want) {
		t.Errorf("Bytes() = %v, %v, want %v, true", got, ok, want)
	}
}

func checkNoNum(t *testing.T, r *word.Reader) {
	t.Helper()
	if got, ok := r.Num(); ok || got != 0 {
		t.Errorf("Num() = %d, %v, want 0, false", got, ok)
	}
}

func checkNoBytes(t *testing.T, r *word.Reader) {
	t.Helper()
	if got, ok := r.Bytes(); ok || len(got) != 0 {
		t.Errorf("Bytes() = %v, %v, want nothing, false", got, ok)
	}
}

func checkDone(t *testing.T, r *word.Reader, want bool) {
	t.Helper()
	if got := r.Done(); got != want {
		t.Errorf("Done() = %v, want %v", got, want)
	}
}

// checkItem reads one item.
func checkItem(t *testing.T, r *word.Reader, it item) {
	t.Helper()
	if it.isNum {
		checkNum(t, r, it.n)
	} else {
		checkBytes(t, r, it.b)
	}
}

// checkNoItem asks for one item that is not to be had.
func checkNoItem(t *testing.T, r *word.Reader, it item) {
	t.Helper()
	if it.isNum {
		checkNoNum(t, r)
	} else {
		checkNoBytes(t, r)
	}
}

// checkDead asks a reader that told false for all it has, in turns.
func checkDead(t *testing.T, r *word.Reader) {
	t.Helper()
	for range 3 {
		checkDone(t, r, false)
		checkNoNum(t, r)
		checkNoBytes(t, r)
		checkNoBytes(t, r)
		checkNoNum(t, r)
		checkDone(t, r, false)
	}
}

func TestWriterExample(t *testing.T) {
	checkOut(t, put(text("a")), []byte{0, 0, 0, 0, 0, 0, 0, 1, 97})
}

func TestWriterEmpty(t *testing.T) {
	checkOut(t, new(word.Writer), nil)
}

func TestWriterNil(t *testing.T) {
	var w *word.Writer
	checkNoOut(t, w)
	w.Num(1)
	w.Bytes([]byte("a"))
	w.Num(-1)
	w.Bytes(nil)
	checkNoOut(t, w)
}

func TestWriterNumbers(t *testing.T) {
	for _, c := range []struct {
		n    int
		want []byte
	}{
		{0, []byte{0, 0, 0, 0, 0, 0, 0, 0}},
		{1, []byte{0, 0, 0, 0, 0, 0, 0, 1}},
		{255, []byte{0, 0, 0, 0, 0, 0, 0, 255}},
		{256, []byte{0, 0, 0, 0, 0, 0, 1, 0}},
		{0x0102030405060708, []byte{1, 2, 3, 4, 5, 6, 7, 8}},
		{1 << 31, []byte{0, 0, 0, 0, 128, 0, 0, 0}},
		{1 << 32, []byte{0, 0, 0, 1, 0, 0, 0, 0}},
		{1 << 40, []byte{0, 0, 1, 0, 0, 0, 0, 0}},
		{top - 1, []byte{63, 255, 255, 255, 255, 255, 255, 255}},
		{top, []byte{64, 0, 0, 0, 0, 0, 0, 0}},
	} {
		checkOut(t, put(num(c.n)), c.want)
	}
}

func TestWriterBytes(t *testing.T) {
	none := []byte{0, 0, 0, 0, 0, 0, 0, 0}
	checkOut(t, put(item{b: nil}), none)
	checkOut(t, put(item{b: []byte{}}), none)
	checkOut(t, put(item{b: make([]byte, 0, 9)}), none)
	checkOut(t, put(text("\x00")), []byte{0, 0, 0, 0, 0, 0, 0, 1, 0})
	checkOut(t, put(text("\xff\x00\n")), []byte{0, 0, 0, 0, 0, 0, 0, 3, 255, 0, 10})
	for _, n := range []int{2, 7, 8, 9, 255, 256, 257, 1000, 65536, 1 << 20} {
		it := item{b: row(n)}
		checkOut(t, put(it), laid(it))
	}
}

// TestWriterPart: only what the slice holds is put, not what lies behind it.
func TestWriterPart(t *testing.T) {
	whole := []byte("xxabyy")
	checkOut(t, put(item{b: whole[2:4]}), []byte{0, 0, 0, 0, 0, 0, 0, 2, 'a', 'b'})
}

func mixed() []item {
	return []item{
		num(7), text("abc"), text(""), num(0), num(top), text("x"),
		{b: row(300)}, num(1 << 40), text("\x00\xff"), text(""),
	}
}

func TestWriterMixed(t *testing.T) {
	checkOut(t, put(mixed()...), laid(mixed()...))
}

// TestWriterGoesOn: Out is no end; what is put behind it is told by the next.
func TestWriterGoesOn(t *testing.T) {
	w := new(word.Writer)
	for i, it := range mixed() {
		checkOut(t, w, laid(mixed()[:i]...))
		checkOut(t, w, laid(mixed()[:i]...))
		if it.isNum {
			w.Num(it.n)
		} else {
			w.Bytes(it.b)
		}
	}
	checkOut(t, w, laid(mixed()...))
}

func wrongNumbers() []int {
	return []int{
		-1, -2, -256, -top, -top - 1, math.MinInt, math.MinInt + 1,
		top + 1, top + 256, math.MaxInt - 1, math.MaxInt,
	}
}

func TestWriterWrongNumbers(t *testing.T) {
	for _, n := range wrongNumbers() {
		checkNoOut(t, put(num(n)))
		checkNoOut(t, put(num(1), text("abc"), num(n)))
	}
}

// TestWriterStaysWrong: no later call makes up for a wrong number.
func TestWriterStaysWrong(t *testing.T) {
	for _, n := range wrongNumbers() {
		w := put(text("abc"), num(n))
		checkNoOut(t, w)
		w.Num(1)
		checkNoOut(t, w)
		w.Bytes([]byte("abc"))
		w.Bytes(nil)
		checkNoOut(t, w)
		w.Num(n)
		w.Num(0)
		checkNoOut(t, w)
		checkNoOut(t, w)
	}
}

// TestWriterWrongAfterOut: a wrong number spoils what an earlier Out told
// well, but not the bytes that it handed out.
func TestWriterWrongAfterOut(t *testing.T) {
	w := put(text("a"))
	out, _ := w.Out()
	w.Num(-1)
	checkNoOut(t, w)
	if !bytes.Equal(out, laid(text("a"))) {
		t.Errorf("the earlier answer is now %v", out)
	}
}

func TestWritersAreApart(t *testing.T) {
	good, wrong := new(word.Writer), new(word.Writer)
	good.Num(1)
	wrong.Num(-1)
	good.Bytes([]byte("a"))
	checkOut(t, good, laid(num(1), text("a")))
	checkNoOut(t, wrong)
}

// TestWriterKeepsNothing: what was handed in may change behind the call, and
// is not changed by it, its spare room included.
func TestWriterKeepsNothing(t *testing.T) {
	whole := []byte("abcdefgh")
	w := new(word.Writer)
	w.Bytes(whole[:3])
	w.Bytes([]byte("XYZXYZXYZXYZ"))
	w.Num(5)
	if string(whole) != "abcdefgh" {
		t.Errorf("what was handed in is now %q", whole)
	}
	clear(whole)
	checkOut(t, w, laid(text("abc"), text("XYZXYZXYZXYZ"), num(5)))
}

// TestOutsAreApart: an answer shares no bytes with another, nor with what the
// writer goes on with.
func TestOutsAreApart(t *testing.T) {
	w := put(text("abc"))
	want := laid(text("abc"))
	first, _ := w.Out()
	second, _ := w.Out()
	spoil(first)
	if !bytes.Equal(second, want) {
		t.Errorf("the second answer is now %v", second)
	}
	checkOut(t, w, want)
	clear(second[:cap(second)])
	w.Num(1)
	checkOut(t, w, laid(text("abc"), num(1)))
	if !bytes.Equal(second, make([]byte, len(want))) {
		t.Errorf("a put changed the second answer to %v", second)
	}
}

// TestOutsRoom: who appends to an answer does not write into the writer's
// own room, nor does the writer into the answer's.
func TestOutsRoom(t *testing.T) {
	for n := range 40 {
		w := put(item{b: row(n)})
		out, _ := w.Out()
		w.Num(0x0101010101010101)
		grown := append(out, 9, 9, 9, 9, 9, 9, 9, 9)
		checkOut(t, w, laid(item{b: row(n)}, num(0x0101010101010101)))
		w.Bytes([]byte("more"))
		if !bytes.Equal(grown, append(laid(item{b: row(n)}), 9, 9, 9, 9, 9, 9, 9, 9)) {
			t.Errorf("the answer of %d bytes grew to %v", n, grown)
		}
	}
}

func TestReaderExample(t *testing.T) {
	r := word.Read([]byte{0, 0, 0, 0, 0, 0, 0, 1, 97})
	checkBytes(t, r, []byte("a"))
	checkDone(t, r, true)
}

func TestReaderNil(t *testing.T) {
	var r *word.Reader
	checkDead(t, r)
}

func TestReaderOfNothing(t *testing.T) {
	for _, b := range [][]byte{nil, {}, []byte("12345678")[:0]} {
		r := word.Read(b)
		if r == nil {
			t.Fatal("Read of nothing answers nil")
		}
		checkDone(t, r, true)
		checkNoNum(t, r)
		checkDead(t, r)
		r = word.Read(b)
		checkNoBytes(t, r)
		checkDead(t, r)
	}
}

func TestReaderNumbers(t *testing.T) {
	for _, c := range []struct {
		b    []byte
		want int
	}{
		{[]byte{0, 0, 0, 0, 0, 0, 0, 0}, 0},
		{[]byte{0, 0, 0, 0, 0, 0, 0, 1}, 1},
		{[]byte{0, 0, 0, 0, 0, 0, 1, 0}, 256},
		{[]byte{1, 2, 3, 4, 5, 6, 7, 8}, 0x0102030405060708},
		{[]byte{0, 0, 0, 0, 255, 255, 255, 255}, 1<<32 - 1},
		{[]byte{0, 0, 1, 0, 0, 0, 0, 0}, 1 << 40},
		{[]byte{63, 255, 255, 255, 255, 255, 255, 255}, top - 1},
		{[]byte{64, 0, 0, 0, 0, 0, 0, 0}, top},
	} {
		r := word.Read(c.b)
		checkDone(t, r, false)
		checkNum(t, r, c.want)
		checkDone(t, r, true)
	}
}

// tooGreat are eight bytes each that say a number above 2^62; as a number
// with a sign some of them would be below 0.
func tooGreat() [][]byte {
	return [][]byte{
		{64, 0, 0, 0, 0, 0, 0, 1},
		{64, 1, 0, 0, 0, 0, 0, 0},
		{65, 0, 0, 0, 0, 0, 0, 0},
		{127, 255, 255, 255, 255, 255, 255, 255},
		{128, 0, 0, 0, 0, 0, 0, 0},
		{128, 0, 0, 0, 0, 0, 0, 1},
		{192, 0, 0, 0, 0, 0, 0, 0},
		{255, 255, 255, 255, 255, 255, 255, 254},
		{255, 255, 255, 255, 255, 255, 255, 255},
	}
}

// TestReaderTooGreat: too great a number ends the reader, however much that
// is good stands behind it.
func TestReaderTooGreat(t *testing.T) {
	for _, b := range tooGreat() {
		r := word.Read(b)
		checkNoNum(t, r)
		checkDead(t, r)
		b = append(b, laid(num(1), text("abc"), num(2), text(""))...)
		r = word.Read(b)
		checkNoNum(t, r)
		checkDead(t, r)
		r = word.Read(b)
		checkNoBytes(t, r)
		checkDead(t, r)
	}
}

func TestReaderBytes(t *testing.T) {
	for _, n := range []int{0, 1, 2, 7, 8, 9, 255, 256, 257, 1000, 65536, 1 << 20} {
		it := item{b: row(n)}
		r := word.Read(laid(it))
		checkDone(t, r, false)
		checkBytes(t, r, it.b)
		checkDone(t, r, true)
		checkNoBytes(t, r)
		checkDead(t, r)
	}
}

// TestReaderMixed: Done tells false ahead of the end, however often it is
// asked, and true at the end, and does not read.
func TestReaderMixed(t *testing.T) {
	r := word.Read(laid(mixed()...))
	for _, it := range mixed() {
		checkDone(t, r, false)
		checkDone(t, r, false)
		checkItem(t, r, it)
	}
	checkDone(t, r, true)
	checkDone(t, r, true)
	checkNoNum(t, r)
	checkDead(t, r)
}

func TestWrittenAndRead(t *testing.T) {
	out, _ := put(mixed()...).Out()
	r := word.Read(out)
	for _, it := range mixed() {
		checkItem(t, r, it)
	}
	checkDone(t, r, true)
}

// TestReaderCutOff cuts a row off at each of its bytes: all items ahead of
// the cut are read, the one that it goes through is not, and what comes
// behind is amiss.
func TestReaderCutOff(t *testing.T) {
	items := mixed()
	whole := laid(items...)
	for cut := range len(whole) {
		r := word.Read(whole[:cut])
		i := 0
		for ; len(laid(items[:i+1]...)) <= cut; i++ {
			checkItem(t, r, items[i])
		}
		checkDone(t, r, cut == len(laid(items[:i]...)))
		checkNoItem(t, r, items[i])
		checkDead(t, r)
	}
}

// TestReaderTooFew: with fewer than eight bytes there is no number, and with
// fewer than are told there are no bytes, not even some.
func TestReaderTooFew(t *testing.T) {
	for n := range 8 {
		r := word.Read(make([]byte, n))
		checkDone(t, r, n == 0)
		checkNoNum(t, r)
		checkDead(t, r)
	}
	for _, told := range []int{3, 4, 8, 9, 10, 11, 1 << 16, math.MaxInt32, 1 << 32, 1<<61 + 2, top - 1, top} {
		r := word.Read(append(laid(num(told)), 1, 2))
		checkNoBytes(t, r)
		checkDead(t, r)
		r = word.Read(laid(num(told)))
		checkNoBytes(t, r)
		checkDead(t, r)
	}
}

// TestReaderDoesNotGoBack: behind bytes that told false, the count and what
// is there of them are not read as something else.
func TestReaderDoesNotGoBack(t *testing.T) {
	r := word.Read(laid(num(9), num(1)))
	checkNoBytes(t, r)
	checkDead(t, r)
	r = word.Read(append(laid(num(4)), 1, 2, 3))
	checkNum(t, r, 4)
	checkNoNum(t, r)
	checkDead(t, r)
}

// TestReaderPart: only what the slice holds is read, not what lies behind it.
func TestReaderPart(t *testing.T) {
	whole := laid(text("abc"), num(1))
	checkNoBytes(t, word.Read(whole[:10]))
	r := word.Read(whole[:11])
	checkBytes(t, r, []byte("abc"))
	checkDone(t, r, true)
}

// TestReaderKeepsNothing: what was handed in may change behind Read, and is
// not changed by reading or by what is done to answers.
func TestReaderKeepsNothing(t *testing.T) {
	whole := laid(text("abc"), num(5), text("defg"))
	was := bytes.Clone(whole)
	r := word.Read(whole)
	b, _ := r.Bytes()
	clear(b)
	_ = append(b, '!', '!', '!')
	if !bytes.Equal(whole, was) {
		t.Errorf("what was handed in is now %v", whole)
	}
	clear(whole)
	checkNum(t, r, 5)
	checkBytes(t, r, []byte("defg"))
	checkDone(t, r, true)
}

// TestReaderAnswersLast: an answer stays as it was, whatever comes of what
// was handed in and of the reader.
func TestReaderAnswersLast(t *testing.T) {
	whole := laid(text("abc"), text("defg"))
	r := word.Read(whole)
	b, _ := r.Bytes()
	clear(whole)
	checkBytes(t, r, []byte("defg"))
	checkNoNum(t, r)
	if string(b) != "abc" {
		t.Errorf("the answer is now %q", b)
	}
}

// TestReaderAnswersApart: who changes an answer, or appends to it, changes
// neither another answer nor what is still to be read.
func TestReaderAnswersApart(t *testing.T) {
	r := word.Read(laid(text("abc"), text(""), text("defg"), num(6), text("h")))
	first, _ := r.Bytes()
	none, _ := r.Bytes()
	spoil(first)
	spoil(none)
	second, ok := r.Bytes()
	if !ok || string(second) != "defg" {
		t.Fatalf("behind a changed answer Bytes() = %q, %v", second, ok)
	}
	spoil(first)
	spoil(none)
	if string(second) != "defg" {
		t.Errorf("the second answer is now %q", second)
	}
	spoil(second)
	checkNum(t, r, 6)
	checkBytes(t, r, []byte("h"))
	checkDone(t, r, true)
	if string(first) != "!!!" {
		t.Errorf("the first answer is now %q", first)
	}
}

// spoil writes over all bytes that can be reached by b, its spare room
// included, and behind it.
func spoil(b []byte) {
	for _, room := range [][]byte{b[:cap(b)], append(b, "!!!!!!!!!!!!!!!!"...)} {
		for i := range room {
			room[i] = '!'
		}
	}
}

// TestReadersAreApart: two readers of the same bytes do not hang on each
// other.
func TestReadersAreApart(t *testing.T) {
	b := laid(text("abc"), num(5))
	one, two := word.Read(b), word.Read(b)
	got, _ := one.Bytes()
	spoil(got)
	checkNum(t, one, 5)
	checkNoNum(t, one)
	checkDone(t, two, false)
	checkBytes(t, two, []byte("abc"))
	checkNum(t, two, 5)
	checkDone(t, two, true)
}

// sparse is n bytes, most of them 0, so that counts are sometimes met.
func sparse(n int) []byte {
	b := row(n)
	for i, c := range b {
		if c%8 != 0 {
			b[i] = 0
		} else if c%16 == 0 {
			b[i] = c / 16
		}
	}
	return b
}

// TestReaderOfAnyBytes: whatever the bytes, reading ends, and tells as the
// chapter's words do.
func TestReaderOfAnyBytes(t *testing.T) {
	met := 0
	for n := range 600 {
		rest := sparse(n)
		r := word.Read(rest)
		for len(rest) >= 8 {
			told := binary.BigEndian.Uint64(rest)
			if told > uint64(len(rest)-8) {
				break
			}
			checkBytes(t, r, rest[8:8+told])
			rest = rest[8+told:]
			met++
		}
		checkDone(t, r, len(rest) == 0)
		checkNoBytes(t, r)
		checkDead(t, r)
	}
	if met < 100 {
		t.Errorf("only %d counts were met: the rows try too little", met)
	}
}

// TestZeroReader: a reader that Read did not make is not promised anything
// but an answer.
func TestZeroReader(t *testing.T) {
	r := new(word.Reader)
	r.Done()
	r.Num()
	r.Bytes()
}
