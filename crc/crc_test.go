package crc_test

import (
	"bytes"
	"hash/crc32"
	"math/bits"
	"math/rand"
	"slices"
	"strings"
	"sync"
	"testing"

	"agio/crc"
)

// row is n bytes that are the same in every run.
func row(seed int64, n int) []byte {
	b := make([]byte, n)
	rand.New(rand.NewSource(seed)).Read(b)
	return b
}

// added is two rows of as many bytes, added by exclusive or.
func added(a, b []byte) []byte {
	c := slices.Clone(a)
	for i := range c {
		c[i] ^= b[i]
	}
	return c
}

// turned is b with the bits of a pattern turned, the pattern's lowest one at a bit of b; each byte's lowest bit is its first.
func turned(b []byte, at int, pattern uint64) []byte {
	c := slices.Clone(b)
	for ; pattern != 0; pattern &= pattern - 1 {
		i := at + bits.TrailingZeros64(pattern)
		c[i/8] ^= 1 << (i % 8)
	}
	return c
}

// having is four bytes that have a sum: the word is led back through their 32 bits.
func having(sum uint32) []byte {
	word := ^sum
	for range 32 {
		if word>>31 == 1 {
			word = (word^0xEDB88320)<<1 | 1
		} else {
			word <<= 1
		}
	}
	word = ^word
	return []byte{byte(word), byte(word >> 8), byte(word >> 16), byte(word >> 24)}
}

// sums are some that a sum may be: the edges, and others.
func sums() []uint32 {
	l := []uint32{0, 1, 1 << 31, 0xFFFFFFFE, 0xFFFFFFFF, 0xCBF43926, 0xEDB88320, ^uint32(0xEDB88320)}
	r := rand.New(rand.NewSource(7))
	for range 100 {
		l = append(l, r.Uint32())
	}
	return l
}

// P1.1: the examples of the chapter.
func TestExamples(t *testing.T) {
	if s := crc.Sum([]byte("123456789")); s != 0xCBF43926 {
		t.Errorf("Sum(123456789): %08X", s)
	}
	if s := crc.Sum(nil); s != 0 {
		t.Errorf("Sum(nothing): %08X", s)
	}
	if s := crc.More(crc.Sum([]byte("1234")), []byte("56789")); s != 0xCBF43926 {
		t.Errorf("More(Sum(1234), 56789): %08X", s)
	}
}

// P1.1: sums that are known elsewhere.
func TestSumKnown(t *testing.T) {
	for _, c := range []struct {
		text string
		sum  uint32
	}{
		{"a", 0xE8B7BE43},
		{"abc", 0x352441C2},
		{"message digest", 0x20159D7F},
		{"The quick brown fox jumps over the lazy dog", 0x414FA339},
		{"\x00", 0xD202EF8D},
		{"\xFF", 0xFF000000},
		{strings.Repeat("\x00", 4), 0x2144DF1C},
		{strings.Repeat("\xFF", 4), 0xFFFFFFFF},
		{strings.Repeat("\x00", 32), 0x190A55AD},
		{strings.Repeat("\xFF", 32), 0xFF6CAB0B},
	} {
		if s := crc.Sum([]byte(c.text)); s != c.sum {
			t.Errorf("Sum(%q): %08X, not %08X", c.text, s, c.sum)
		}
	}
}

// P1.1: each byte, and each of some lengths, as the library sums it.
func TestSumOfAll(t *testing.T) {
	for c := range 256 {
		b := []byte{byte(c)}
		if s, w := crc.Sum(b), crc32.ChecksumIEEE(b); s != w {
			t.Errorf("Sum(%d): %08X, not %08X", c, s, w)
		}
	}
	b := row(1, 700)
	for n := range len(b) + 1 {
		if s, w := crc.Sum(b[:n]), crc32.ChecksumIEEE(b[:n]); s != w {
			t.Errorf("Sum of %d bytes: %08X, not %08X", n, s, w)
		}
	}
}

// P1.1: the order of bytes counts, and each of them, also one of no bit at either end.
func TestSumOfOthers(t *testing.T) {
	seen := map[uint32]string{}
	for _, x := range []string{"", "\x00", "\x00\x00", "a", "\x00a", "a\x00", "ab", "ba", "abc", "acb", "bac"} {
		s := crc.Sum([]byte(x))
		if y, there := seen[s]; there {
			t.Errorf("%q and %q have one sum: %08X", y, x, s)
		}
		seen[s] = x
	}
}

// P1.1: More takes whatever sum there is, and goes on as bytes that have it would.
func TestMoreOfAnySum(t *testing.T) {
	for _, sum := range sums() {
		head := having(sum)
		if s := crc.Sum(head); s != sum {
			t.Fatalf("Sum(%v): %08X, not %08X", head, s, sum)
		}
		for n := range 20 {
			b := row(int64(n), n)
			s := crc.More(sum, b)
			if w := crc.Sum(slices.Concat(head, b)); s != w {
				t.Errorf("More(%08X, %v): %08X, not %08X", sum, b, s, w)
			}
			if w := crc32.Update(sum, crc32.IEEETable, b); s != w {
				t.Errorf("More(%08X, %v): %08X, not the library's %08X", sum, b, s, w)
			}
		}
	}
}

// P1.1: whichever bytes have a sum: long ones and short ones that have the same are gone on from alike.
func TestMoreOfWhicheverBytes(t *testing.T) {
	for n := range 40 {
		long, b := row(int64(n), n), row(int64(n+100), 30)
		short := having(crc.Sum(long))
		x, y := crc.Sum(slices.Concat(long, b)), crc.Sum(slices.Concat(short, b))
		if s := crc.More(crc.Sum(long), b); s != x || s != y {
			t.Errorf("behind %d bytes: %08X, %08X, %08X", n, s, x, y)
		}
	}
}

// P1.1: no bytes behind some leave their sum; ahead of all stands 0.
func TestMoreOfNothing(t *testing.T) {
	for _, sum := range sums() {
		if s := crc.More(sum, nil); s != sum {
			t.Errorf("More(%08X, nothing): %08X", sum, s)
		}
	}
	for n := range 50 {
		b := row(int64(n), n)
		if s, w := crc.More(0, b), crc.Sum(b); s != w {
			t.Errorf("More(0, %v): %08X, not %08X", b, s, w)
		}
	}
}

// P1.2: More goes on where Sum ended, wherever bytes are cut in two, and in three.
func TestCutAnywhere(t *testing.T) {
	for n := range 60 {
		b := row(int64(n), n)
		whole := crc.Sum(b)
		for i := range n + 1 {
			head := crc.Sum(b[:i])
			if s := crc.More(head, b[i:]); s != whole {
				t.Fatalf("%d bytes, cut at %d: %08X, not %08X", n, i, s, whole)
			}
			for j := i; j <= n; j++ {
				if s := crc.More(crc.More(head, b[i:j]), b[j:]); s != whole {
					t.Fatalf("%d bytes, cut at %d and %d: %08X, not %08X", n, i, j, s, whole)
				}
			}
		}
	}
}

// P1.2: byte by byte is all at once.
func TestCutEverywhere(t *testing.T) {
	b := row(3, 5000)
	sum := crc.Sum(nil)
	for i, c := range b {
		sum = crc.More(sum, []byte{c})
		if w := crc32.ChecksumIEEE(b[:i+1]); sum != w {
			t.Fatalf("behind %d bytes: %08X, not %08X", i+1, sum, w)
		}
	}
}

// P1.2: a bit that is turned, or two within 32 of them, or all of 1 to 32, one behind the other, give another sum, wherever they are.
func TestTurnedBits(t *testing.T) {
	const n = 12
	for _, b := range [][]byte{make([]byte, n), bytes.Repeat([]byte{0xFF}, n), row(4, n), []byte("123456789abc")} {
		sum := crc.Sum(b)
		for at := range 8 * n {
			for wide := 1; wide <= 32 && at+wide <= 8*n; wide++ {
				ends, all := uint64(1)|1<<(wide-1), uint64(1)<<wide-1
				if crc.Sum(turned(b, at, ends)) == sum || crc.Sum(turned(b, at, all)) == sum {
					t.Fatalf("%v: bits turned at %d, %d wide: the same sum", b, at, wide)
				}
			}
		}
	}
}

// P1.2: whatever is turned within 32 bits gives another sum.
func TestTurnedPatterns(t *testing.T) {
	r := rand.New(rand.NewSource(5))
	for range 20000 {
		n := 4 + r.Intn(40)
		b := row(r.Int63(), n)
		at := r.Intn(8*n - 31)
		pattern := r.Uint64() & (1<<32 - 1) >> r.Intn(32)
		if pattern == 0 {
			continue
		}
		if c := turned(b, at, pattern); crc.Sum(c) == crc.Sum(b) {
			t.Fatalf("%v and %v have one sum", b, c)
		}
	}
}

// P1.2: within 16 bits, each pattern that there is.
func TestTurnedEach(t *testing.T) {
	b := []byte("agio")
	sum := crc.Sum(b)
	for _, at := range []int{0, 1, 7, 8, 15, 16} {
		for pattern := uint64(1); pattern < 1<<16; pattern++ {
			if crc.Sum(turned(b, at, pattern)) == sum {
				t.Fatalf("%x turned at %d: the same sum", pattern, at)
			}
		}
	}
}

// P1.2's bound is 32 bits: of 33 there is a pattern that no sum tells (what P1.1's word comes to); one beside it, it tells.
func TestTurnedBeyond(t *testing.T) {
	const silent = 0xEDB88320<<1 | 1
	for n := 5; n < 20; n++ {
		b := row(int64(n), n)
		for at := 0; at+33 <= 8*n; at++ {
			if crc.Sum(turned(b, at, silent)) != crc.Sum(b) {
				t.Fatalf("%d bytes, at %d: another sum", n, at)
			}
			if crc.Sum(turned(b, at, silent^1<<9)) == crc.Sum(b) {
				t.Fatalf("%d bytes, at %d: the same sum", n, at)
			}
		}
	}
}

// P1.2: of three rows of as many bytes, the sum of all three added is their sums added.
func TestThreeRows(t *testing.T) {
	for n := range 200 {
		a, b, c := row(int64(n), n), row(int64(n+1000), n), row(int64(n+2000), n)
		s := crc.Sum(added(added(a, b), c))
		if w := crc.Sum(a) ^ crc.Sum(b) ^ crc.Sum(c); s != w {
			t.Errorf("three rows of %d bytes: %08X, not %08X", n, s, w)
		}
	}
}

// R2, R3: nil is empty; what is handed in stays, and what stands behind it is not looked at.
func TestHandedIn(t *testing.T) {
	for _, sum := range sums() {
		if crc.More(sum, nil) != crc.More(sum, []byte{}) {
			t.Errorf("More(%08X): nil isn't empty", sum)
		}
	}
	if crc.Sum(nil) != crc.Sum([]byte{}) {
		t.Error("Sum: nil isn't empty")
	}
	b := row(6, 300)
	was := slices.Clone(b)
	head, gone := crc.Sum(b[:200]), crc.More(9, b[:200])
	if !bytes.Equal(b, was) {
		t.Error("the bytes were changed")
	}
	clear(b[200:])
	if crc.Sum(b[:200]) != head || crc.More(9, b[:200]) != gone {
		t.Error("bytes behind those that are handed in count")
	}
}

// R4: nothing is kept from call to call, and calls beside each other don't touch.
func TestNothingKept(t *testing.T) {
	var all sync.WaitGroup
	for i := range 8 {
		all.Go(func() {
			b := row(int64(i), 100+i)
			w := crc32.ChecksumIEEE(b)
			for range 200 {
				if s := crc.Sum(b); s != w {
					t.Errorf("Sum: %08X, not %08X", s, w)
				}
				if s := crc.More(crc.Sum(b[:i]), b[i:]); s != w {
					t.Errorf("More: %08X, not %08X", s, w)
				}
			}
		})
	}
	all.Wait()
}

// P1: calls end, and none panics, with many bytes too.
func TestManyBytes(t *testing.T) {
	b := row(8, 1<<22)
	w := crc32.ChecksumIEEE(b)
	if s := crc.Sum(b); s != w {
		t.Errorf("Sum: %08X, not %08X", s, w)
	}
	if s := crc.More(crc.Sum(b[:1<<21+1]), b[1<<21+1:]); s != w {
		t.Errorf("More: %08X, not %08X", s, w)
	}
}
