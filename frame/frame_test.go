package frame_test

import (
	"bytes"
	"encoding/binary"
	"hash/crc32"
	"math"
	"math/rand"
	"slices"
	"sync"
	"testing"

	"agio/api"
	"agio/frame"
)

// row is n bytes that are the same in every run.
func row(seed int64, n int) []byte {
	b := make([]byte, n)
	rand.New(rand.NewSource(seed)).Read(b)
	return b
}

// told is bytes behind a count and a sum that may be none of theirs.
func told(count, sum uint32, b []byte) []byte {
	f := binary.LittleEndian.AppendUint32(nil, count)
	return append(binary.LittleEndian.AppendUint32(f, sum), b...)
}

// sum is the library's sum of a count and of bytes.
func sum(count uint32, b []byte) uint32 {
	return crc32.Update(crc32.ChecksumIEEE(binary.LittleEndian.AppendUint32(nil, count)), crc32.IEEETable, b)
}

// framed is the frame of b as the library lays it down.
func framed(b []byte) []byte {
	n := uint32(len(b))
	return told(n, sum(n, b), b)
}

// put is the frame of b as Put lays it down.
func put(t *testing.T, b []byte) []byte {
	t.Helper()
	f, e := frame.Put(b)
	if e != api.OK {
		t.Fatalf("Put of %d bytes: %v", len(b), e)
	}
	return f
}

// rows are some rows of bytes, of many lengths, all the edges among them.
func rows() [][]byte {
	l := [][]byte{nil, {0}, {0xFF}, []byte("a"), make([]byte, 4), make([]byte, 8), make([]byte, api.MaxBytes), bytes.Repeat([]byte{0xFF}, api.MaxBytes)}
	for n := range 40 {
		l = append(l, row(int64(n), n))
	}
	for _, n := range []int{255, 256, 257, 511, 512, 1000, 4094, 4095, 4096} {
		l = append(l, row(int64(n), n))
	}
	return append(l, framed(nil), framed([]byte("a")), framed(framed([]byte("b")))) // what is in a frame may be frames
}

// refused tells unless Take of b has that error, tells nothing, and Scan ends there, behind a whole one too.
func refused(t *testing.T, what string, b []byte, code api.Errno) {
	t.Helper()
	in, left, e := frame.Take(b)
	if e != code {
		t.Errorf("%s: Take: %v, not %v", what, e, code)
	}
	if len(in) != 0 || len(left) != 0 {
		t.Errorf("%s: Take told %d bytes and %d beside an error", what, len(in), len(left))
	}
	scanned(t, what, b, nil, 0)
	whole := framed([]byte("whole"))
	scanned(t, what, slices.Concat(whole, b), [][]byte{[]byte("whole")}, len(whole))
}

// scanned tells unless Scan of b tells that.
func scanned(t *testing.T, what string, b []byte, want [][]byte, size int) {
	t.Helper()
	l, n := frame.Scan(b)
	if n != size || !slices.EqualFunc(l, want, bytes.Equal) {
		t.Errorf("%s: Scan told %d frames, %d bytes, not %d, %d", what, len(l), n, len(want), size)
	}
}

// P3.1, P3.2: the examples of the chapter.
func TestExamples(t *testing.T) {
	f := put(t, []byte("a"))
	if len(f) != 9 || !bytes.Equal(f[:4], []byte{1, 0, 0, 0}) || f[8] != 97 {
		t.Errorf("Put(a): %v", f)
	}
	if s := binary.LittleEndian.Uint32(f[4:]); s != crc32.ChecksumIEEE([]byte{1, 0, 0, 0, 97}) {
		t.Errorf("Put(a): the sum is %08X", s)
	}
	twice := slices.Concat(f, f)
	scanned(t, "twice, less a byte", twice[:17], [][]byte{[]byte("a")}, 9)
	scanned(t, "twice", twice, [][]byte{[]byte("a"), []byte("a")}, 18)
}

// P3.1: frames that are known byte by byte.
func TestPutKnown(t *testing.T) {
	for _, c := range []struct{ in, frame string }{
		{"", "\x00\x00\x00\x00\x1C\xDF\x44\x21"},
		{"a", "\x01\x00\x00\x00\x63\x8F\xF7\xC1a"},
		{"agio", "\x04\x00\x00\x00\x77\x30\x58\x46agio"},
	} {
		if f := put(t, []byte(c.in)); string(f) != c.frame {
			t.Errorf("Put(%q): %q, not %q", c.in, f, c.frame)
		}
	}
}

// P3.1: bytes of each length up to the bound are as the library frames them, and are taken again.
func TestPutOfEachLength(t *testing.T) {
	b := row(1, api.MaxBytes)
	for n := range api.MaxBytes + 1 {
		if n > 300 && n < 4000 && n%97 != 0 {
			continue
		}
		f := put(t, b[:n])
		if !bytes.Equal(f, framed(b[:n])) {
			t.Fatalf("Put of %d bytes isn't their frame", n)
		}
		in, left, e := frame.Take(f)
		if e != api.OK || !bytes.Equal(in, b[:n]) || len(left) != 0 {
			t.Fatalf("Take of %d bytes: %d, %d left, %v", n, len(in), len(left), e)
		}
	}
}

// P3.1: ErrFull of Put from 4097 bytes on.
func TestPutTooMany(t *testing.T) {
	for _, n := range []int{4097, 4098, 5000, 8192, 1<<16 + 1, 1 << 22} {
		if f, e := frame.Put(make([]byte, n)); e != api.ErrFull || len(f) != 0 {
			t.Errorf("Put of %d bytes: %d bytes, %v", n, len(f), e)
		}
	}
}

// P3.1: what stands behind a frame is told as it stands, whatever it is.
func TestTakeLeft(t *testing.T) {
	for _, b := range rows() {
		for _, behind := range [][]byte{nil, {0}, {0xFF}, row(2, 7), row(3, 8), framed(b), framed(b)[:7], row(4, 5000)} {
			in, left, e := frame.Take(slices.Concat(framed(b), behind))
			if e != api.OK || !bytes.Equal(in, b) || !bytes.Equal(left, behind) {
				t.Errorf("%d bytes, %d behind: %d, %d, %v", len(b), len(behind), len(in), len(left), e)
			}
		}
	}
}

// P3.1: ErrShort of fewer than eight bytes, whatever these tell: it is named ahead of ErrFull.
func TestTakeFewerThanEight(t *testing.T) {
	for _, b := range [][]byte{make([]byte, 7), bytes.Repeat([]byte{0xFF}, 7), framed(nil)[:7], framed([]byte("a"))[:7], told(4097, 0, nil)[:7]} {
		for n := range 8 {
			refused(t, "fewer than eight", b[:n], api.ErrShort)
		}
	}
	refused(t, "nil", nil, api.ErrShort)
}

// P3.1: ErrFull of a count above 4096, named ahead of ErrShort and ErrCorrupt: be they all there or not, and the sum theirs or not.
func TestTakeTooMany(t *testing.T) {
	for _, count := range []uint32{4097, 4098, 4352, 8192, 1 << 16, 1<<16 + 1, 1 << 24, 1<<24 + 1, math.MaxInt32, 1 << 31, 1<<31 + 1, math.MaxUint32 - 7, math.MaxUint32} {
		refused(t, "none there", told(count, sum(count, nil), nil), api.ErrFull)
		refused(t, "some there", told(count, 0, row(5, 4096)), api.ErrFull)
		if count > 1<<17 {
			continue
		}
		b := row(6, int(count))
		refused(t, "all there", framed(b), api.ErrFull)
		refused(t, "all there, another sum", told(count, 0, b), api.ErrFull)
		refused(t, "more there", append(framed(b), 0), api.ErrFull)
	}
}

// P3.1: ErrShort of a count above what is there, named ahead of ErrCorrupt.
func TestTakeTorn(t *testing.T) {
	for _, b := range rows() {
		f := framed(b)
		for cut := 1; cut <= len(b); cut += 1 + len(b)/50 {
			torn := f[:len(f)-cut]
			refused(t, "torn", torn, api.ErrShort)
			other := slices.Clone(torn)
			other[4] ^= 1
			refused(t, "torn, another sum", other, api.ErrShort)
		}
	}
	refused(t, "4096, none there", told(4096, 0, nil), api.ErrShort)
	refused(t, "4096, one missing", framed(row(7, 4096))[:4103], api.ErrShort)
}

// P3.1: ErrCorrupt of each other sum; also of one of the bytes alone, without their count.
func TestTakeCorrupt(t *testing.T) {
	for _, b := range rows() {
		n := uint32(len(b))
		s := sum(n, b)
		others := []uint32{s + 1, s - 1, ^s, backwards(s), crc32.ChecksumIEEE(b), 0, math.MaxUint32}
		for i := range 32 {
			others = append(others, s^1<<i)
		}
		for _, other := range others {
			if other == s {
				continue
			}
			refused(t, "another sum", told(n, other, b), api.ErrCorrupt)
			refused(t, "another sum, more behind", told(n, other, slices.Concat(b, []byte("behind"))), api.ErrCorrupt)
		}
	}
	refused(t, "zeros", make([]byte, 100), api.ErrCorrupt)
	refused(t, "the count's highest byte first", []byte{0, 0, 0, 1, 0, 0, 0, 0, 97}, api.ErrFull)
}

// backwards is a sum with its bytes the other way round.
func backwards(s uint32) uint32 { return s>>24 | s>>8&0xFF00 | s<<8&0xFF0000 | s<<24 }

// P3.2: Scan is Take, and Take of what is left, up to the first error.
func TestScanIsTake(t *testing.T) {
	r := rand.New(rand.NewSource(8))
	for range 3000 {
		b := mixed(r)
		var want [][]byte
		left, size := b, 0
		for {
			in, l, e := frame.Take(left)
			if e != api.OK {
				break
			}
			want, left, size = append(want, in), l, size+8+len(in)
		}
		scanned(t, "mixed", b, want, size)
		if len(b)-size != len(left) {
			t.Errorf("%d of %d bytes scanned, %d left", size, len(b), len(left))
		}
	}
}

// mixed is frames one behind the other, some of them turned or torn, and other bytes between them.
func mixed(r *rand.Rand) []byte {
	var b []byte
	for range r.Intn(8) {
		f := framed(row(r.Int63(), r.Intn(30)))
		switch r.Intn(12) {
		case 0:
			f[r.Intn(len(f))] ^= 1 << r.Intn(8)
		case 1:
			f = f[:r.Intn(len(f))]
		case 2:
			f = row(r.Int63(), r.Intn(20))
		}
		b = append(b, f...)
	}
	return b
}

// P3.2: nothing, and what is no frame from the first byte on.
func TestScanNothing(t *testing.T) {
	scanned(t, "nil", nil, nil, 0)
	scanned(t, "empty", []byte{}, nil, 0)
	scanned(t, "a byte ahead", append([]byte{0}, framed([]byte("a"))...), nil, 0)
	scanned(t, "frames of nothing", slices.Concat(framed(nil), framed(nil)), [][]byte{nil, nil}, 16)
}

// P3.2: a frame behind one that isn't whole isn't told.
func TestScanEndsAtFirstError(t *testing.T) {
	a, b, c := framed([]byte("a")), framed([]byte("bb")), framed([]byte("ccc"))
	full := told(4097, sum(4097, nil), nil)
	other := slices.Clone(b)
	other[8] ^= 0x80
	for _, bad := range [][]byte{full, other, b[:9], {0}} {
		scanned(t, "a bad one", slices.Concat(a, bad, c, c), [][]byte{[]byte("a")}, 9)
		scanned(t, "a bad first one", slices.Concat(bad, a, c), nil, 0)
	}
}

// several is some rows, their frames one behind the other, and where each frame ends.
func several(seed int64, most int) ([][]byte, []byte, []int) {
	r := rand.New(rand.NewSource(seed))
	l, all, ends := [][]byte{}, []byte{}, []int{}
	for range 1 + r.Intn(6) {
		b := row(r.Int63(), r.Intn(most+1))
		l, all = append(l, b), append(all, framed(b)...)
		ends = append(ends, len(all))
	}
	return l, all, ends
}

// P3.3: frames one behind the other are scanned as they were.
func TestScannedAsTheyWere(t *testing.T) {
	var all []byte
	for _, b := range rows() {
		all = append(all, put(t, b)...)
	}
	scanned(t, "all rows", all, rows(), len(all))
	for seed := range int64(200) {
		l, all, _ := several(seed, 4096)
		scanned(t, "several", all, l, len(all))
	}
}

// P3.3: each beginning of frames is scanned as those that are whole in it.
func TestScannedFromABeginning(t *testing.T) {
	for seed := range int64(60) {
		l, all, ends := several(seed, 60)
		for n := range len(all) + 1 {
			whole, size := 0, 0
			for whole < len(ends) && ends[whole] <= n {
				size = ends[whole]
				whole++
			}
			scanned(t, "a beginning", all[:n], l[:whole], size)
		}
	}
}

// P3.3: with bits turned within 32 in one of the frames, those ahead are scanned as they were, and it is not.
func TestScannedWithBitsTurned(t *testing.T) {
	r := rand.New(rand.NewSource(9))
	for seed := range int64(20) {
		l, all, ends := several(seed, 60)
		for which, end := range ends {
			begin := end - 8 - len(l[which])
			for at := 8 * begin; at < 8*end; at++ {
				for _, pattern := range []uint64{1, 3, 1<<31 | 1, 1<<32 - 1, r.Uint64()&(1<<32-1) | 1} {
					b := turned(all, at, pattern, 8*end)
					got, n := frame.Scan(b)
					if len(got) < which || !slices.EqualFunc(got[:which], l[:which], bytes.Equal) || n < begin {
						t.Fatalf("seed %d, frame %d, bit %d: those ahead are %d, %d bytes", seed, which, at, len(got), n)
					}
					if len(got) > which && bytes.Equal(got[which], l[which]) {
						t.Fatalf("seed %d, frame %d, bit %d, %x: it is scanned as it was", seed, which, at, pattern)
					}
				}
			}
		}
	}
}

// turned is b with the bits of a pattern turned, its lowest one at a bit of b, those from end on left.
func turned(b []byte, at int, pattern uint64, end int) []byte {
	c := slices.Clone(b)
	for ; pattern != 0 && at < end; at, pattern = at+1, pattern>>1 {
		c[at/8] ^= byte(pattern&1) << (at % 8)
	}
	return c
}

// P3.3: bits turned in what is in a frame, or in its sum, end the scan there.
func TestTurnedIsCorrupt(t *testing.T) {
	b := row(10, 40)
	f := framed(b)
	for at := 32; at < 8*len(f); at++ {
		refused(t, "a bit turned", turned(f, at, 1, 8*len(f)), api.ErrCorrupt)
	}
	for at := 64; at < 8*len(f); at++ {
		refused(t, "32 bits turned", turned(f, at, 1<<32-1, 8*len(f)), api.ErrCorrupt)
	}
}

// P2: what is taken is laid down as it stood.
func TestLaidDownAsItStood(t *testing.T) {
	r := rand.New(rand.NewSource(11))
	for range 2000 {
		b := mixed(r)
		l, n := frame.Scan(b)
		var again []byte
		for _, in := range l {
			again = append(again, put(t, in)...)
		}
		if !bytes.Equal(again, b[:n]) {
			t.Fatalf("%v is laid down again as %v", b[:n], again)
		}
	}
}

// R2: nil is empty.
func TestNilIsEmpty(t *testing.T) {
	if !bytes.Equal(put(t, nil), put(t, []byte{})) {
		t.Error("Put: nil isn't empty")
	}
	for _, b := range [][]byte{nil, {}} {
		if in, left, e := frame.Take(b); len(in) != 0 || len(left) != 0 || e != api.ErrShort {
			t.Errorf("Take of nothing: %v, %v, %v", in, left, e)
		}
	}
}

// R3: what is handed in stays, also what stands behind it.
func TestHandedInStays(t *testing.T) {
	room := row(12, 200)
	was := slices.Clone(room)
	put(t, room[:100])
	if !bytes.Equal(room, was) {
		t.Error("Put changed what is handed in")
	}
	all := slices.Concat(framed([]byte("a")), framed(row(13, 90)), row(14, 50))
	was = slices.Clone(all)
	frame.Take(all[:20])
	frame.Take(all)
	frame.Scan(all[:100])
	frame.Scan(all)
	if !bytes.Equal(all, was) {
		t.Error("Take or Scan changed what is handed in")
	}
}

// R3: what is told is the caller's own: it shares nothing with what was handed in, nor one piece with another.
func TestToldIsOwn(t *testing.T) {
	in := row(15, 50)
	f := put(t, in)
	clear(in)
	if !bytes.Equal(f, framed(row(15, 50))) {
		t.Error("a frame shares what was put in it")
	}
	b := slices.Concat(framed([]byte("one")), framed([]byte("two")), []byte("left"))
	one, left, _ := frame.Take(b)
	l, _ := frame.Scan(b)
	fill(b)
	if string(one) != "one" || !bytes.Equal(left, append(framed([]byte("two")), "left"...)) || string(l[0]) != "one" || string(l[1]) != "two" {
		t.Error("what is told shares what was handed in")
	}
	fill(one[:cap(one)])
	fill(l[0][:cap(l[0])])
	if !bytes.Equal(left, append(framed([]byte("two")), "left"...)) || string(l[1]) != "two" {
		t.Error("what is told shares its bytes with other of it")
	}
}

func fill(b []byte) {
	for i := range b {
		b[i] = 0xAA
	}
}

// R4: nothing is kept from call to call, and calls beside each other don't touch.
func TestNothingKept(t *testing.T) {
	var all sync.WaitGroup
	for i := range int64(8) {
		all.Go(func() {
			l, b, _ := several(i, 300)
			for range 50 {
				scanned(t, "beside others", b, l, len(b))
				if f, e := frame.Put(l[0]); e != api.OK || !bytes.Equal(f, framed(l[0])) {
					t.Errorf("Put beside others: %v", e)
				}
			}
		})
	}
	all.Wait()
}

// P1: many frames, and many bytes that are none.
func TestMany(t *testing.T) {
	const n = 200000
	all := bytes.Repeat(framed([]byte("many")), n)
	if l, size := frame.Scan(all); len(l) != n || size != len(all) {
		t.Errorf("%d frames, %d bytes", len(l), size)
	}
	noise := row(16, 1<<22)
	if l, size := frame.Scan(noise); len(l) != 0 || size != 0 {
		t.Errorf("noise: %d frames, %d bytes", len(l), size)
	}
	for seed := range int64(20000) {
		b := row(seed, int(seed%40))
		if len(b) > 3 {
			b[1], b[2], b[3] = 0, 0, 0
		}
		frame.Take(b)
		frame.Scan(b)
	}
}
