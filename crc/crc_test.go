package crc_test

import (
	"bytes"
	"hash/crc32"
	"testing"

	"pillarbox/crc"
)

// step is one step of the chapter: a bit is laid against the lowest one of
// the number, which is shifted; a 1 that came of both lays edb88320 over it.
func step(n, bit uint32) uint32 {
	both := (n ^ bit) & 1
	n >>= 1
	if both == 1 {
		n ^= 0xedb88320
	}
	return n
}

// sumByBits is Sum by the chapter's steps, bit by bit.
func sumByBits(b []byte) uint32 {
	n := uint32(0xffffffff)
	for _, c := range b {
		for bit := 0; bit < 8; bit++ {
			n = step(n, uint32(c>>bit)&1)
		}
	}
	return n ^ 0xffffffff
}

// row is n bytes that look unlike each other, the same at each run.
func row(n int) []byte {
	b := make([]byte, n)
	seed := uint32(n)*2654435761 + 1
	for i := range b {
		seed = seed*1664525 + 1013904223
		b[i] = byte(seed >> 24)
	}
	return b
}

func checkSum(t *testing.T, b []byte, want uint32) {
	t.Helper()
	if got := crc.Sum(b); got != want {
		t.Errorf("Sum of %d bytes (%.20q) = %08x, want %08x", len(b), b, got, want)
	}
}

// TestSumKnown holds Sum against sums written out by hand: the chapter's
// example first.
func TestSumKnown(t *testing.T) {
	checkSum(t, []byte("123456789"), 0xcbf43926)
	checkSum(t, []byte("a"), 0xe8b7be43)
	checkSum(t, []byte("abc"), 0x352441c2)
	checkSum(t, []byte("The quick brown fox jumps over the lazy dog"), 0x414fa339)
	checkSum(t, []byte{0}, 0xd202ef8d)
	checkSum(t, []byte{0xff}, 0xff000000)
	checkSum(t, []byte{0, 0, 0, 0}, 0x2144df1c)
	checkSum(t, []byte{0xff, 0xff, 0xff, 0xff}, 0xffffffff)
	checkSum(t, bytes.Repeat([]byte{0}, 32), 0x190a55ad)
	checkSum(t, bytes.Repeat([]byte{0xff}, 32), 0xff6cab0b)
}

func TestSumOfNothing(t *testing.T) {
	checkSum(t, nil, 0)
	checkSum(t, []byte{}, 0)
	checkSum(t, make([]byte, 0, 8), 0)
	checkSum(t, []byte("123456789")[4:4], 0)
}

func TestSumOfSingleBytes(t *testing.T) {
	for c := range 256 {
		b := []byte{byte(c)}
		checkSum(t, b, sumByBits(b))
	}
}

func TestSumOfPairs(t *testing.T) {
	for c := range 256 * 256 {
		b := []byte{byte(c >> 8), byte(c)}
		checkSum(t, b, sumByBits(b))
	}
}

func TestSumOfLongerRows(t *testing.T) {
	for n := range 600 {
		b := row(n)
		checkSum(t, b, sumByBits(b))
		checkSum(t, b, crc32.ChecksumIEEE(b))
	}
	for _, n := range []int{4095, 4096, 4097, 8192, 65537, 1 << 20} {
		b := row(n)
		checkSum(t, b, sumByBits(b))
		checkSum(t, b, crc32.ChecksumIEEE(b))
	}
}

// TestSumOfParts: only what the slice holds counts, not what lies behind it.
func TestSumOfParts(t *testing.T) {
	whole := []byte("xx123456789yy")
	checkSum(t, whole[2:11], 0xcbf43926)
	checkSum(t, whole[2:11:11], 0xcbf43926)
}

// TestSumTellsTurnedBits: a sum that turned bits leave as it was guards
// nothing.
func TestSumTellsTurnedBits(t *testing.T) {
	b := row(40)
	sum := crc.Sum(b)
	for bit := range len(b) * 8 {
		b[bit/8] ^= 1 << (bit % 8)
		if crc.Sum(b) == sum {
			t.Errorf("bit %d turned: the sum is still %08x", bit, sum)
		}
		b[bit/8] ^= 1 << (bit % 8)
	}
	checkSum(t, b, sum)
}

// TestSumLeavesBytes: what is handed in is not changed, its spare room
// included.
func TestSumLeavesBytes(t *testing.T) {
	whole := row(64)
	was := bytes.Clone(whole)
	crc.Sum(whole[8:32])
	if !bytes.Equal(whole, was) {
		t.Errorf("Sum made %x of %x", whole, was)
	}
}

func TestTableKnown(t *testing.T) {
	table := crc.Table()
	if len(table) != 256 {
		t.Fatalf("%d entries", len(table))
	}
	for n, want := range map[int]uint32{
		0: 0, 1: 0x77073096, 2: 0xee0e612c, 3: 0x990951ba, 4: 0x076dc419,
		127: 0xc0ba6cad, 128: 0xedb88320, 129: 0x9abfb3b6, 254: 0x5a05df1b, 255: 0x2d02ef8d,
	} {
		if table[n] != want {
			t.Errorf("entry %d = %08x, want %08x", n, table[n], want)
		}
	}
}

// TestTableBySteps holds each entry against eight steps without bits.
func TestTableBySteps(t *testing.T) {
	table := crc.Table()
	for n, got := range table {
		want := uint32(n)
		for range 8 {
			want = step(want, 0)
		}
		if got != want {
			t.Errorf("entry %d = %08x, want %08x", n, got, want)
		}
		if want != crc32.IEEETable[n] {
			t.Errorf("entry %d: the steps make %08x, a table elsewhere has %08x", n, want, crc32.IEEETable[n])
		}
	}
}

// TestTableIsNew: who changes a table that was answered changes nobody
// else's.
func TestTableIsNew(t *testing.T) {
	first := crc.Table()
	was := first
	clear(first[:])
	if second := crc.Table(); second != was {
		t.Error("a table that was changed comes back")
	}
	checkSum(t, []byte("123456789"), 0xcbf43926)
}
