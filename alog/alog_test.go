package alog_test

import (
	"bytes"
	"encoding/binary"
	"errors"
	"fmt"
	"hash/crc32"
	"maps"
	"math"
	"math/rand"
	"slices"
	"strings"
	"sync"
	"testing"

	"agio/alog"
	"agio/api"
	"agio/wire"
)

const (
	promised = 1
	accepted = 2
	top      = 1 << 40
)

// may tells which records may be, as the chapter's words say it.
func may(r alog.Rec) bool {
	if r.Kind != promised && r.Kind != accepted {
		return false
	}
	if r.Kind == promised && len(r.Val) > 0 {
		return false
	}
	return r.Slot >= 0 && r.Slot <= 4095 && r.Bal.Round >= 0 && r.Bal.Round <= top && r.Bal.Site >= 0 && r.Bal.Site <= 6 && len(r.Val) <= 2048
}

// bytesOf is how a record is laid down, whether it may be or not: by the library's numbers, which are those of chapter 2.
func bytesOf(r alog.Rec) []byte {
	var b []byte
	for _, n := range []int{r.Kind, r.Slot, r.Bal.Round, r.Bal.Site, len(r.Val)} {
		b = binary.AppendUvarint(b, uint64(n))
	}
	return append(b, r.Val...)
}

// framed is bytes in a frame of chapter 3, by the library's sum.
func framed(b []byte) []byte {
	f := binary.LittleEndian.AppendUint32(nil, uint32(len(b)))
	sum := crc32.Update(crc32.ChecksumIEEE(f), crc32.IEEETable, b)
	return append(binary.LittleEndian.AppendUint32(f, sum), b...)
}

// laid is records in frames, one behind the other, and where each frame ends.
func laid(l []alog.Rec) ([]byte, []int) {
	var all []byte
	var ends []int
	for _, r := range l {
		all = append(all, framed(bytesOf(r))...)
		ends = append(ends, len(all))
	}
	return all, ends
}

func same(a, b alog.Rec) bool {
	return a.Kind == b.Kind && a.Slot == b.Slot && a.Bal == b.Bal && bytes.Equal(a.Val, b.Val)
}

func zero(r alog.Rec) bool { return same(r, alog.Rec{}) && r.Val == nil }

// rec is a record of these numbers, and so many bytes.
func rec(kind, slot, round, site, n int) alog.Rec {
	return alog.Rec{Kind: kind, Slot: slot, Bal: api.Ballot{Round: round, Site: site}, Val: row(int64(n), n)}
}

// row is so many bytes of all values.
func row(seed int64, n int) []byte {
	b := make([]byte, n)
	rand.New(rand.NewSource(seed)).Read(b)
	return b
}

// fields are the places of a record's numbers.
func fields(r *alog.Rec) []*int { return []*int{&r.Kind, &r.Slot, &r.Bal.Round, &r.Bal.Site} }

// edges are all numbers at which something that the chapter names begins or ends, and numbers that come round to them.
func edges() []int {
	l := []int{math.MinInt64, math.MinInt64 + 1, math.MaxInt64 - 1, math.MaxInt64}
	for _, n := range []int{0, 1, 2, 6, 64, 128, 2048, 4095, 1 << 14, top, 1 << 8, 1 << 16, 1 << 31, 1 << 32, 1 << 62} {
		for d := -2; d <= 2; d++ {
			l = append(l, n+d, -n+d)
		}
	}
	slices.Sort(l)
	return slices.Compact(l)
}

// turned calls with records of both kinds that have a number or two of them at an edge, and as many bytes as may be, fewer and more.
func turned(call func(r alog.Rec)) {
	l, sizes := edges(), []int{0, 1, 127, 128, 2047, 2048, 2049, 4096}
	for _, kind := range []int{promised, accepted} {
		for _, n := range sizes {
			call(rec(kind, 5, 3, 2, n))
			for i := range 4 {
				for _, v := range l {
					r := rec(kind, 5, 3, 2, n)
					*fields(&r)[i] = v
					call(r)
				}
			}
		}
	}
	rnd := rand.New(rand.NewSource(1))
	for range 6000 {
		r := rec(1+rnd.Intn(2), rnd.Intn(4096), rnd.Intn(top+1), rnd.Intn(7), 0)
		if rnd.Intn(2) == 0 {
			r.Val = row(rnd.Int63(), sizes[rnd.Intn(len(sizes))])
		}
		for range rnd.Intn(3) {
			*fields(&r)[rnd.Intn(4)] = l[rnd.Intn(len(l))]
		}
		call(r)
	}
}

// some is up to n records that may be, about few slots.
func some(rnd *rand.Rand, n, bytes int) []alog.Rec {
	var l []alog.Rec
	for range rnd.Intn(n + 1) {
		r := rec(promised, rnd.Intn(4096), rnd.Intn(4), rnd.Intn(7), 0)
		if rnd.Intn(3) > 0 {
			r.Slot = rnd.Intn(6)
		}
		if rnd.Intn(8) == 0 {
			r.Bal.Round = rnd.Intn(top + 1)
		}
		if rnd.Intn(2) == 0 {
			r.Kind, r.Val = accepted, row(rnd.Int63(), rnd.Intn(bytes+1))
		}
		l = append(l, r)
	}
	return l
}

// isForm tells unless e is an error that wraps ErrForm, and is no other one.
func isForm(t *testing.T, what string, e error) {
	t.Helper()
	var found api.Errno
	switch {
	case e == nil:
		t.Errorf("%s: no error", what)
		return
	case e == error(api.ErrForm):
		t.Errorf("%s: %v doesn't wrap its Errno: it is it", what, e)
	case !errors.As(e, &found) || found != api.ErrForm || wire.Code(e) != api.ErrForm:
		t.Errorf("%s: %v has %v", what, e, found)
	case !strings.Contains(e.Error(), "form"):
		t.Errorf("%s: %q doesn't tell its kind", what, e.Error())
	}
	for code := api.OK; code <= api.ErrState; code++ {
		if errors.Is(e, code) != (code == api.ErrForm) {
			t.Errorf("%s: is it %v? %t", what, code, errors.Is(e, code))
		}
	}
}

// The chapter's example.
func TestExample(t *testing.T) {
	r := alog.Rec{Kind: alog.Promised, Slot: 3, Bal: api.Ballot{Round: 1, Site: 2}}
	want := []byte{1, 3, 1, 2, 0}
	if b, e := alog.Encode(r); e != api.OK || !bytes.Equal(b, want) {
		t.Errorf("Encode: %v, %v, not %v", b, e, want)
	}
	if d, e := alog.Decode(want); e != nil || !same(d, r) {
		t.Errorf("Decode: %v, %v, not %v", d, e, r)
	}
}

// P7.1: the kinds have the chapter's numbers.
func TestKinds(t *testing.T) {
	if alog.Promised != 1 || alog.Accepted != 2 {
		t.Errorf("kinds: %d, %d", alog.Promised, alog.Accepted)
	}
}

// P7.1: records at each end that the chapter names may be.
func TestMayBe(t *testing.T) {
	for _, r := range []alog.Rec{
		rec(promised, 0, 0, 0, 0),
		rec(promised, 4095, top, 6, 0),
		rec(accepted, 0, 0, 0, 0),
		rec(accepted, 0, 0, 0, 1),
		rec(accepted, 4095, top, 6, 2048),
	} {
		b, e := alog.Encode(r)
		if want := bytesOf(r); e != api.OK || !bytes.Equal(b, want) {
			t.Errorf("%+v: %v, %v, not %v", r, b, e, want)
		}
		if d, e := alog.Decode(b); e != nil || !same(d, r) {
			t.Errorf("%+v: decoded as %+v, %v", r, d, e)
		}
	}
}

// P7.1: records beyond an end may not be, laid down or read.
func TestMayNotBe(t *testing.T) {
	for _, r := range []alog.Rec{
		{},
		rec(0, 1, 1, 1, 0),
		rec(3, 1, 1, 1, 0),
		rec(-1, 1, 1, 1, 0),
		rec(1<<32+1, 1, 1, 1, 0),
		rec(promised, -1, 1, 1, 0),
		rec(promised, 4096, 1, 1, 0),
		rec(promised, 1<<32, 1, 1, 0),
		rec(promised, 1, -1, 1, 0),
		rec(promised, 1, top+1, 1, 0),
		rec(promised, 1, math.MaxInt64, 1, 0),
		rec(promised, 1, 1, -1, 0),
		rec(promised, 1, 1, 7, 0),
		rec(promised, 1, 1, 1, 1),
		rec(promised, 1, 1, 1, 2048),
		rec(accepted, -1, 1, 1, 3),
		rec(accepted, 4096, 1, 1, 3),
		rec(accepted, 1, -1, 1, 3),
		rec(accepted, 1, top+1, 1, 3),
		rec(accepted, 1, 1, -1, 3),
		rec(accepted, 1, 1, 7, 3),
		rec(accepted, 1, 1, 1, 2049),
	} {
		if b, e := alog.Encode(r); e != api.ErrArg || b != nil {
			t.Errorf("Encode %+v: %v, %v", r, b, e)
		}
		d, e := alog.Decode(bytesOf(r))
		isForm(t, fmt.Sprintf("%+v", r), e)
		if !zero(d) {
			t.Errorf("Decode %+v: %+v beside an error", r, d)
		}
	}
}

// P7.1, R1: with one number or two of it at an edge, a record is laid down as the chapter says, or there is ErrArg and no bytes.
func TestEncode(t *testing.T) {
	is, isn := 0, 0
	turned(func(r alog.Rec) {
		b, e := alog.Encode(r)
		if may(r) {
			is++
			if want := bytesOf(r); e != api.OK || !bytes.Equal(b, want) {
				t.Fatalf("%+v: %v, %v, not %v", r, b, e, want)
			}
			return
		}
		isn++
		if e != api.ErrArg || b != nil {
			t.Fatalf("%+v: %v, %v", r, b, e)
		}
	})
	if is < 1000 || isn < 1000 {
		t.Errorf("%d may be, %d may not: too few of one to tell", is, isn)
	}
}

// P7.1: the numbers stand in their order, each of another value.
func TestOrder(t *testing.T) {
	r := alog.Rec{Kind: accepted, Slot: 300, Bal: api.Ballot{Round: 200, Site: 6}, Val: []byte("ab")}
	if b, e := alog.Encode(r); e != api.OK || !bytes.Equal(b, []byte{2, 172, 2, 200, 1, 6, 2, 'a', 'b'}) {
		t.Errorf("%v, %v", b, e)
	}
}

// parsed is the record of which b is the bytes, whether it may be or not, by the library's numbers; false: there is none.
func parsed(b []byte) (alog.Rec, bool) {
	var r alog.Rec
	size := 0
	for _, p := range append(fields(&r), &size) {
		n, k := binary.Uvarint(b)
		if k <= 0 || n > math.MaxInt64 {
			return r, false
		}
		*p, b = int(n), b[k:]
	}
	r.Val = b
	return r, size == len(b)
}

// decoded tells unless Decode(b) is what P7.1 says, and whether it is a record.
func decoded(t *testing.T, b []byte) bool {
	t.Helper()
	kept := slices.Clone(b)
	r, e := alog.Decode(b)
	if !bytes.Equal(b, kept) {
		t.Fatalf("%v: changed to %v", kept, b)
	}
	want, is := parsed(kept)
	if is && may(want) && bytes.Equal(bytesOf(want), kept) {
		if e != nil || !same(r, want) {
			t.Fatalf("%v: %+v, %v, not %+v", kept, r, e, want)
		}
		if again, f := alog.Encode(r); f != api.OK || !bytes.Equal(again, kept) {
			t.Fatalf("%v: encoded again as %v, %v", kept, again, f)
		}
		return true
	}
	isForm(t, fmt.Sprint(kept), e)
	if !zero(r) {
		t.Fatalf("%v: %+v beside an error", kept, r)
	}
	return false
}

// P7.1: of records, whether they may be or not, each beginning of them, and bytes behind them.
func TestDecode(t *testing.T) {
	turned(func(r alog.Rec) {
		b := bytesOf(r)
		if is := decoded(t, b); is != may(r) {
			t.Fatalf("%+v: is it read? %t", r, is)
		}
		if decoded(t, append(b, 0)) || decoded(t, b[:len(b)-1]) {
			t.Fatalf("%+v: read with a byte more, or less", r)
		}
	})
	for _, r := range []alog.Rec{rec(promised, 4095, top, 6, 0), rec(accepted, 4000, 7, 0, 200)} {
		b := bytesOf(r)
		for n := range b {
			if decoded(t, b[:n]) {
				t.Errorf("%+v: its first %d bytes are read", r, n)
			}
		}
		if decoded(t, slices.Concat(b, b)) {
			t.Errorf("%+v: read twice at once", r)
		}
	}
}

// P7.1: what isn't laid down as Encode does it is an error that wraps ErrForm, of whatever kind that of wire is.
func TestDecodeErrors(t *testing.T) {
	long := string(bytes.Repeat([]byte{255}, 9))
	for _, c := range []struct{ what, b string }{
		{"nothing", ""},
		{"a kind alone", "\x01"},
		{"no value", "\x01\x03\x01\x02"},
		{"a torn slot", "\x01\x83"},
		{"a byte left", "\x01\x03\x01\x02\x00\x00"},
		{"a value of a promised one", "\x01\x03\x01\x02\x01x"},
		{"fewer bytes than told", "\x02\x03\x01\x02\x02x"},
		{"more bytes than told", "\x02\x03\x01\x02\x01xy"},
		{"a kind in two bytes", "\x81\x00\x03\x01\x02\x00"},
		{"a slot in two bytes", "\x01\x83\x00\x01\x02\x00"},
		{"a round in two bytes", "\x01\x03\x81\x00\x02\x00"},
		{"a site in two bytes", "\x01\x03\x01\x82\x00\x00"},
		{"a length in two bytes", "\x01\x03\x01\x02\x80\x00"},
		{"kind 0", "\x00\x03\x01\x02\x00"},
		{"kind 3", "\x03\x03\x01\x02\x00"},
		{"kind 129", "\x81\x01\x03\x01\x02\x00"},
		{"slot 4096", "\x01\x80\x20\x01\x02\x00"},
		{"round 2^40 + 1", "\x01\x03\x81\x80\x80\x80\x80\x20\x02\x00"},
		{"site 7", "\x01\x03\x01\x07\x00"},
		{"a kind of 64 bits", long + "\x01\x03\x01\x02\x00"},
		{"a kind of 65 bits", long + "\x02\x03\x01\x02\x00"},
		{"a slot of 64 bits", "\x01" + long + "\x01\x01\x02\x00"},
		{"a round of 63 bits", "\x01\x03" + long[1:] + "\x7F\x02\x00"},
		{"a length of 64 bits", "\x02\x03\x01\x02" + long + "\x01"},
		{"a length of 65 bits", "\x02\x03\x01\x02" + long + "\x02"},
		{"2049 bytes", "\x02\x03\x01\x02\x81\x10" + strings.Repeat("x", 2049)},
	} {
		if decoded(t, []byte(c.b)) {
			t.Errorf("%s: read", c.what)
		}
	}
}

// P7.1: all rows of up to six bytes out of those at which something begins or ends.
func TestDecodeAllShort(t *testing.T) {
	letters := []byte{0, 1, 2, 6, 7, 127, 128, 129}
	read := 0
	var walk func(b []byte)
	walk = func(b []byte) {
		if decoded(t, b) {
			read++
		}
		if len(b) < 6 {
			for _, c := range letters {
				walk(append(b, c))
			}
		}
	}
	walk(make([]byte, 0, 7))
	if read < 1000 {
		t.Errorf("%d are read: too few to tell", read)
	}
}

// P7.1: bytes by chance, and records with a few bytes of them turned.
func TestDecodeNoise(t *testing.T) {
	rnd := rand.New(rand.NewSource(2))
	for range 30000 {
		b := row(rnd.Int63(), rnd.Intn(30))
		if l := some(rnd, 1, 20); len(l) > 0 {
			b = bytesOf(l[0])
			for range rnd.Intn(3) {
				b[rnd.Intn(len(b))] = byte(rnd.Intn(256))
			}
		}
		decoded(t, b)
	}
}

// P7.2: records are laid down in frames, one behind the other; nothing of none.
func TestLay(t *testing.T) {
	rnd := rand.New(rand.NewSource(3))
	for range 500 {
		l := some(rnd, 12, 2048)
		want, _ := laid(l)
		if b, e := alog.Lay(l); e != api.OK || !bytes.Equal(b, want) {
			t.Fatalf("%v: %v, %v, not %v", l, b, e, want)
		}
	}
	for _, l := range [][]alog.Rec{nil, {}} {
		if b, e := alog.Lay(l); e != api.OK || len(b) != 0 {
			t.Errorf("none: %v, %v", b, e)
		}
	}
	l := []alog.Rec{rec(promised, 3, 1, 2, 0)}
	want := []byte{5, 0, 0, 0, 0, 0, 0, 0, 1, 3, 1, 2, 0}
	binary.LittleEndian.PutUint32(want[4:], crc32.ChecksumIEEE(append(slices.Clone(want[:4]), want[8:]...)))
	if b, e := alog.Lay(l); e != api.OK || !bytes.Equal(b, want) {
		t.Errorf("one: %v, %v, not %v", b, e, want)
	}
}

// P7.2, R1: with one among them that may not be, wherever it stands, none is laid down.
func TestLayErrors(t *testing.T) {
	good := []alog.Rec{rec(promised, 3, 1, 2, 0), rec(accepted, 4, 0, 1, 5), rec(accepted, 5, 9, 0, 0)}
	for _, bad := range []alog.Rec{{}, rec(promised, 1, 1, 1, 1), rec(accepted, 1, 1, 1, 2049), rec(accepted, 4096, 0, 0, 0)} {
		for at := range len(good) + 1 {
			l := slices.Insert(slices.Clone(good), at, bad)
			if b, e := alog.Lay(l); e != api.ErrArg || b != nil {
				t.Errorf("%+v at %d: %v, %v", bad, at, b, e)
			}
		}
	}
}

// isRead tells unless Read(b) is these records, of so many bytes, and they, laid down again, are these bytes.
func isRead(t *testing.T, what string, b []byte, want []alog.Rec, size int) {
	t.Helper()
	kept := slices.Clone(b)
	l, n := alog.Read(b)
	if n != size || !slices.EqualFunc(l, want, same) {
		t.Fatalf("%s: %v, %d, not %v, %d", what, l, n, want, size)
	}
	if again, e := alog.Lay(l); e != api.OK || !bytes.Equal(again, kept[:n]) {
		t.Fatalf("%s: laid down again: %v, %v, not %v", what, again, e, kept[:n])
	}
	if !bytes.Equal(b, kept) {
		t.Fatalf("%s: what is handed in changed", what)
	}
}

// P7.2: nothing is read of nothing, nor of what is no frame from the first byte on.
func TestReadNothing(t *testing.T) {
	one, _ := laid([]alog.Rec{rec(accepted, 1, 2, 3, 4)})
	isRead(t, "nil", nil, nil, 0)
	isRead(t, "empty", []byte{}, nil, 0)
	isRead(t, "a byte", []byte{0}, nil, 0)
	isRead(t, "a byte ahead", append([]byte{0}, one...), nil, 0)
	isRead(t, "a record without a frame", bytesOf(rec(accepted, 1, 2, 3, 4)), nil, 0)
	isRead(t, "a whole one", one, []alog.Rec{rec(accepted, 1, 2, 3, 4)}, len(one))
}

// P7.2: a frame that has no record ends it, as one that isn't whole does: neither it is read, nor what stands behind it.
func TestReadEndsAtFirstOther(t *testing.T) {
	good := []alog.Rec{rec(promised, 3, 1, 2, 0), rec(accepted, 4, 0, 1, 5), rec(accepted, 5, 9, 0, 300)}
	torn := framed(bytesOf(good[1]))
	bent := slices.Clone(torn)
	bent[len(bent)-1] ^= 1
	bads := [][]byte{torn[:len(torn)-1], bent, framed(make([]byte, 4097)), {1, 2, 3}}
	for _, r := range []alog.Rec{{}, rec(3, 1, 1, 1, 0), rec(promised, 1, 1, 1, 1), rec(accepted, 4096, 0, 0, 3), rec(accepted, 0, 0, 0, 2049)} {
		bads = append(bads, framed(bytesOf(r)))
	}
	bads = append(bads, framed(nil), framed(slices.Concat(bytesOf(good[0]), bytesOf(good[0]))), framed([]byte{129, 0, 3, 1, 2, 0}), framed(make([]byte, 4096)))
	behind, _ := laid(good)
	for i, bad := range bads {
		for n := range len(good) + 1 {
			ahead, _ := laid(good[:n])
			isRead(t, fmt.Sprintf("bad %d behind %d", i, n), slices.Concat(ahead, bad, behind), good[:n], len(ahead))
		}
	}
}

// P7.4: what is laid down is read as it was, whatever stands behind it that is no frame.
func TestReadAsItWas(t *testing.T) {
	rnd := rand.New(rand.NewSource(4))
	for range 500 {
		l := some(rnd, 12, 2048)
		b, e := alog.Lay(l)
		if e != api.OK {
			t.Fatalf("Lay: %v", e)
		}
		isRead(t, "as it was", b, l, len(b))
		isRead(t, "behind it", append(b, row(rnd.Int63(), rnd.Intn(8))...), l, len(b))
	}
	turned(func(r alog.Rec) {
		if may(r) {
			b, _ := alog.Lay([]alog.Rec{r, r})
			isRead(t, "twice", b, []alog.Rec{r, r}, len(b))
		}
	})
}

// P7.4: of each beginning the records are read that are whole in it.
func TestReadOfABeginning(t *testing.T) {
	rnd := rand.New(rand.NewSource(5))
	for range 300 {
		l := some(rnd, 6, 40)
		all, ends := laid(l)
		for n := range len(all) + 1 {
			whole, size := 0, 0
			for whole < len(ends) && ends[whole] <= n {
				size = ends[whole]
				whole++
			}
			isRead(t, fmt.Sprintf("%d of %d bytes", n, len(all)), all[:n], l[:whole], size)
		}
	}
}

// P7.4: of bytes that are turned here and there what is read, laid down again, is what was read; the records ahead are read.
func TestReadOfTurned(t *testing.T) {
	rnd := rand.New(rand.NewSource(6))
	for range 5000 {
		l := some(rnd, 6, 40)
		b, ends := laid(l)
		if len(b) == 0 {
			continue
		}
		at := rnd.Intn(len(b))
		b[at] ^= byte(1 + rnd.Intn(255))
		whole, size := 0, 0
		for ends[whole] <= at {
			size = ends[whole]
			whole++
		}
		// The eight bits that are turned stand within 32, so that the sum tells of it, or the length does; a new length could only make a frame by chance.
		isRead(t, fmt.Sprintf("byte %d turned", at), b, l[:whole], size)
	}
	for range 5000 {
		b := row(rnd.Int63(), rnd.Intn(200))
		if rnd.Intn(2) == 0 {
			b = framed(b)
		}
		l, n := alog.Read(b)
		isRead(t, "by chance", b, l, n)
	}
}

// lasts is P7.3, as its words say it.
func lasts(l []alog.Rec, kind, slot int) (alog.Rec, bool) {
	var last alog.Rec
	is := false
	for _, r := range l {
		if r.Kind == kind && r.Slot == slot {
			last, is = r, true
		}
	}
	return last, is
}

// told tells unless Last and Slots of l are what P7.3 says.
func told(t *testing.T, l []alog.Rec) {
	t.Helper()
	in := map[int]struct{}{}
	for _, r := range l {
		in[r.Slot] = struct{}{}
	}
	s := alog.Slots(l)
	if want := slices.Sorted(maps.Keys(in)); !slices.Equal(s, want) {
		t.Fatalf("Slots of %v: %v, not %v", l, s, want)
	}
	for _, slot := range append(s, -1, 0, 4095, 4096, math.MinInt64, math.MaxInt64) {
		for _, kind := range []int{promised, accepted, 0, 3, -1, math.MinInt64, math.MaxInt64} {
			r, is := alog.Last(l, kind, slot)
			if want, there := lasts(l, kind, slot); is != there || !same(r, want) || !is && !zero(r) {
				t.Fatalf("Last of %v, %d, %d: %v, %t, not %v, %t", l, kind, slot, r, is, want, there)
			}
		}
	}
}

// P7.3: the last one of its kind about its slot, the others of which are passed over; the slots rise, each once.
func TestLastAndSlots(t *testing.T) {
	l := []alog.Rec{
		rec(promised, 7, 1, 0, 0),
		rec(accepted, 7, 1, 1, 3),
		rec(promised, 2, 5, 2, 0),
		rec(accepted, 7, 0, 2, 2),
		rec(promised, 7, 4, 3, 0),
		rec(accepted, 0, 9, 4, 0),
		rec(promised, 7, 2, 5, 0),
	}
	for _, c := range []struct{ kind, slot, at int }{
		{promised, 7, 6}, {accepted, 7, 3}, {promised, 2, 2}, {accepted, 0, 5},
		{accepted, 2, -1}, {promised, 0, -1}, {promised, 1, -1}, {accepted, 8, -1}, {0, 7, -1}, {3, 7, -1},
	} {
		r, is := alog.Last(l, c.kind, c.slot)
		switch {
		case is != (c.at >= 0):
			t.Errorf("Last(%d, %d): is there one? %t", c.kind, c.slot, is)
		case is && !same(r, l[c.at]):
			t.Errorf("Last(%d, %d): %v, not %v", c.kind, c.slot, r, l[c.at])
		case !is && !zero(r):
			t.Errorf("Last(%d, %d): %v beside false", c.kind, c.slot, r)
		}
	}
	if s := alog.Slots(l); !slices.Equal(s, []int{0, 2, 7}) {
		t.Errorf("Slots: %v", s)
	}
	told(t, l)
}

// P7.3: of none; of a kind and a slot of a record that may not be, too, if such a one is in the list.
func TestLastAndSlotsOfOthers(t *testing.T) {
	told(t, nil)
	told(t, []alog.Rec{})
	told(t, []alog.Rec{{}})
	told(t, []alog.Rec{rec(0, -1, 1, 1, 1), rec(-1, -1, 2, 1, 1), rec(3, 4096, 1, 1, 1), rec(3, 4096, 0, 0, 1), rec(math.MaxInt64, math.MinInt64, 0, 0, 0), rec(1, math.MaxInt64, 0, 0, 9)})
	rnd := rand.New(rand.NewSource(7))
	for range 500 {
		told(t, some(rnd, 30, 10))
	}
}

// R2: nil is empty.
func TestNilIsEmpty(t *testing.T) {
	for _, kind := range []int{promised, accepted} {
		a, d := alog.Encode(alog.Rec{Kind: kind})
		b, e := alog.Encode(alog.Rec{Kind: kind, Val: []byte{}})
		if !bytes.Equal(a, b) || d != api.OK || e != api.OK {
			t.Errorf("Encode: %v, %v, %v, %v", a, d, b, e)
		}
	}
	for _, b := range [][]byte{nil, {}} {
		r, e := alog.Decode(b)
		isForm(t, "Decode of nothing", e)
		if !zero(r) {
			t.Errorf("Decode of nothing: %v", r)
		}
	}
}

// R3: what is handed in stays, also what stands behind it.
func TestHandedInStays(t *testing.T) {
	room := row(8, 100)
	was := slices.Clone(room)
	l := make([]alog.Rec, 4)
	for i := range l {
		l[i] = alog.Rec{Kind: accepted, Slot: 4 - i, Val: room[10*i : 10*i+10]}
	}
	all := slices.Clone(l)
	alog.Encode(l[0])
	alog.Lay(l[:2])
	alog.Slots(l[:3])
	alog.Last(l[:2], accepted, 4)
	if !slices.EqualFunc(l, all, same) || !bytes.Equal(room, was) {
		t.Error("Encode, Lay, Slots or Last changed what is handed in")
	}
	b, _ := laid(l)
	b = append(b, room...)
	was = slices.Clone(b)
	alog.Decode(b[8:23])
	alog.Read(b[:50])
	alog.Read(b)
	if !bytes.Equal(b, was) {
		t.Error("Decode or Read changed what is handed in")
	}
}

func fill(b []byte) {
	b = b[:cap(b)]
	for i := range b {
		b[i] = 0xAA
	}
}

// R3: what is told is the caller's own: it shares nothing with what was handed in, nor one piece with another.
func TestToldIsOwn(t *testing.T) {
	l := []alog.Rec{rec(accepted, 1, 0, 0, 20), rec(accepted, 2, 0, 0, 20), rec(accepted, 3, 0, 0, 20)}
	want, _ := laid(l)
	one, _ := alog.Encode(l[0])
	all, _ := alog.Lay(l)
	last, _ := alog.Last(l, accepted, 3)
	fill(last.Val)
	if !same(l[2], rec(accepted, 3, 0, 0, 20)) {
		t.Error("Last shares its Val with the list")
	}
	last, _ = alog.Last(l, accepted, 3)
	for _, r := range l {
		fill(r.Val)
	}
	if !bytes.Equal(one, want[8:len(want)/3]) || !bytes.Equal(all, want) || !same(last, rec(accepted, 3, 0, 0, 20)) {
		t.Error("what is told shares the Vals that were handed in")
	}
	l, _ = alog.Read(all)
	r, _ := alog.Decode(one)
	fill(all)
	fill(one)
	if !same(l[0], rec(accepted, 1, 0, 0, 20)) || !same(l[2], rec(accepted, 3, 0, 0, 20)) || !same(r, rec(accepted, 1, 0, 0, 20)) {
		t.Error("what is read shares the bytes that were handed in")
	}
	fill(l[1].Val)
	if !same(l[0], rec(accepted, 1, 0, 0, 20)) || !same(l[2], rec(accepted, 3, 0, 0, 20)) {
		t.Error("what is read shares its Vals with each other")
	}
}

// R4: nothing is kept from call to call, and calls beside each other don't touch.
func TestNothingKept(t *testing.T) {
	var all sync.WaitGroup
	for i := range int64(8) {
		all.Go(func() {
			rnd := rand.New(rand.NewSource(i))
			for range 50 {
				l := some(rnd, 10, 100)
				b, _ := laid(l)
				isRead(t, "beside others", b, l, len(b))
				told(t, l)
			}
		})
	}
	all.Wait()
}

// P1: many records, about many slots, and many bytes that are none.
func TestMany(t *testing.T) {
	const n = 100000
	l := make([]alog.Rec, n)
	for i := range l {
		l[i] = rec(1+i%2, i%4096, i, i%7, 0)
	}
	b, e := alog.Lay(l)
	if e != api.OK {
		t.Fatalf("Lay: %v", e)
	}
	isRead(t, "many", b, l, len(b))
	if s := alog.Slots(l); len(s) != 4096 || s[0] != 0 || s[4095] != 4095 {
		t.Errorf("%d slots", len(s))
	}
	if r, is := alog.Last(l, promised, 0); !is || !same(r, l[n-n%4096]) {
		t.Errorf("Last: %v, %t", r, is)
	}
	noise := row(9, 1<<21)
	isRead(t, "noise", noise, nil, 0)
	alog.Decode(noise)
}
