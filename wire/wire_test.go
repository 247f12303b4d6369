package wire_test

import (
	"bytes"
	"encoding/binary"
	"errors"
	"fmt"
	"math"
	"math/rand"
	"slices"
	"strings"
	"sync"
	"testing"

	"agio/api"
	"agio/wire"
)

// laid is what calls of a zero Writer lay down.
func laid(calls func(w *wire.Writer)) []byte {
	var w wire.Writer
	calls(&w)
	return w.Told()
}

// number is how a number is laid down.
func number(n uint64) []byte { return laid(func(w *wire.Writer) { w.Uint(n) }) }

// numbers are the edges, of bytes and of kinds, and others of all lengths.
func numbers() []uint64 {
	l := []uint64{0, 1, 2, 300, math.MaxInt32, math.MaxUint32, math.MaxInt64 - 1, math.MaxUint64 - 1, math.MaxUint64}
	for k := range 64 {
		l = append(l, 1<<k-1, 1<<k, 1<<k+1)
	}
	r := rand.New(rand.NewSource(1))
	for range 2000 {
		l = append(l, r.Uint64()>>r.Intn(64))
	}
	return l
}

// wrong tells unless e is an error of that number and place, which wraps its Errno, and is found as all of them are.
func wrong(t *testing.T, what string, e error, code api.Errno, at int) {
	t.Helper()
	var found api.Errno
	switch {
	case e == nil:
		t.Errorf("%s: no error, not %v", what, code)
		return
	case !errors.Is(e, code):
		t.Errorf("%s: %v isn't %v", what, e, code)
	case !errors.As(e, &found) || found != code:
		t.Errorf("%s: %v has %v, not %v", what, e, found, code)
	case e == error(code):
		t.Errorf("%s: %v doesn't wrap its Errno: it is it", what, e)
	}
	if c := wire.Code(e); c != code {
		t.Errorf("%s: Code: %v, not %v", what, c, code)
	}
	if p := wire.At(e); p != at {
		t.Errorf("%s: At: %d, not %d", what, p, at)
	}
	for other := api.OK; other <= api.ErrState; other++ {
		if other != code && errors.Is(e, other) {
			t.Errorf("%s: %v is %v, too", what, e, other)
		}
	}
}

// reads is one call of a Reader, as a text of what it told, and its error.
type reads struct {
	name string
	call func(r *wire.Reader) (string, error)
}

func reader[T any](name string, call func(r *wire.Reader) (T, error)) reads {
	return reads{name, func(r *wire.Reader) (string, error) {
		v, e := call(r)
		return fmt.Sprint(v), e
	}}
}

func unsigned() reads { return reader("Uint", (*wire.Reader).Uint) }

func signed() reads { return reader("Int", (*wire.Reader).Int) }

func small(most int) reads {
	return reader(fmt.Sprintf("Small(%d)", most), func(r *wire.Reader) (int, error) { return r.Small(most) })
}

func text(most int) reads {
	return reader(fmt.Sprintf("Bytes(%d)", most), func(r *wire.Reader) (string, error) {
		b, e := r.Bytes(most)
		return string(b), e
	})
}

// refused tells unless a call on b, behind some bytes ahead of it, has that error, tells zero, and lets the reader stay.
func refused(t *testing.T, c reads, b string, code api.Errno) {
	t.Helper()
	for _, ahead := range []int{0, 1, 5} {
		what := fmt.Sprintf("%s of %q, behind %d", c.name, b, ahead)
		r := wire.From([]byte(strings.Repeat("\x07", ahead) + b))
		for range ahead {
			if _, e := r.Uint(); e != nil {
				t.Fatalf("%s: %v", what, e)
			}
		}
		for range 2 { // it stays: so the same comes again
			v, e := c.call(r)
			wrong(t, what, e, code, ahead)
			if v != "0" && v != "" {
				t.Errorf("%s: told %q beside an error", what, v)
			}
			if r.Left() != len(b) {
				t.Errorf("%s: %d are left, not %d", what, r.Left(), len(b))
			}
		}
	}
}

// taken tells unless a call on b tells that, and leaves so many.
func taken(t *testing.T, c reads, b, told string, left int) {
	t.Helper()
	r := wire.From([]byte(b))
	v, e := c.call(r)
	if v != told || e != nil || r.Left() != left {
		t.Errorf("%s of %q: %q, %v, %d left, not %q, %d left", c.name, b, v, e, r.Left(), told, left)
	}
}

// The chapter's examples, and the whole's second one.
func TestExamples(t *testing.T) {
	if b := number(300); !bytes.Equal(b, []byte{172, 2}) {
		t.Errorf("Uint(300): %v", b)
	}
	if b := laid(func(w *wire.Writer) { w.Int(-1) }); !bytes.Equal(b, []byte{1}) {
		t.Errorf("Int(-1): %v", b)
	}
	if b := laid(func(w *wire.Writer) { w.Bytes([]byte("ab")) }); !bytes.Equal(b, []byte{2, 'a', 'b'}) {
		t.Errorf("Bytes(ab): %v", b)
	}
	refused(t, unsigned(), "\x80\x00", api.ErrForm)
}

// P2.1: numbers, by sevens of their bits, the lowest first.
func TestUintLaid(t *testing.T) {
	for _, c := range []struct {
		n uint64
		b string
	}{
		{0, "\x00"}, {1, "\x01"}, {127, "\x7F"}, {128, "\x80\x01"}, {255, "\xFF\x01"}, {256, "\x80\x02"},
		{1<<14 - 1, "\xFF\x7F"}, {1 << 14, "\x80\x80\x01"}, {1 << 40, "\x80\x80\x80\x80\x80\x20"},
		{1<<63 - 1, "\xFF\xFF\xFF\xFF\xFF\xFF\xFF\xFF\x7F"},
		{1 << 63, "\x80\x80\x80\x80\x80\x80\x80\x80\x80\x01"},
		{math.MaxUint64, "\xFF\xFF\xFF\xFF\xFF\xFF\xFF\xFF\xFF\x01"},
	} {
		if b := number(c.n); string(b) != c.b {
			t.Errorf("Uint(%d): %q, not %q", c.n, b, c.b)
		}
	}
	for _, n := range numbers() {
		if b, w := number(n), binary.AppendUvarint(nil, n); !bytes.Equal(b, w) {
			t.Errorf("Uint(%d): %v, not %v", n, b, w)
		}
	}
}

// P2.1: numbers with a sign: 2n, or -2n - 1.
func TestIntLaid(t *testing.T) {
	for _, c := range []struct {
		n int64
		b string
	}{
		{0, "\x00"}, {1, "\x02"}, {-1, "\x01"}, {2, "\x04"}, {-2, "\x03"}, {63, "\x7E"}, {-64, "\x7F"}, {64, "\x80\x01"}, {-65, "\x81\x01"},
		{math.MaxInt64, "\xFE\xFF\xFF\xFF\xFF\xFF\xFF\xFF\xFF\x01"},
		{math.MinInt64, "\xFF\xFF\xFF\xFF\xFF\xFF\xFF\xFF\xFF\x01"},
		{math.MinInt64 + 1, "\xFD\xFF\xFF\xFF\xFF\xFF\xFF\xFF\xFF\x01"},
	} {
		if b := laid(func(w *wire.Writer) { w.Int(c.n) }); string(b) != c.b {
			t.Errorf("Int(%d): %q, not %q", c.n, b, c.b)
		}
	}
	for _, n := range numbers() {
		for _, m := range []int64{int64(n), -int64(n)} {
			if b, w := laid(func(w *wire.Writer) { w.Int(m) }), binary.AppendVarint(nil, m); !bytes.Equal(b, w) {
				t.Errorf("Int(%d): %v, not %v", m, b, w)
			}
		}
	}
}

// P2.1: bytes, behind how many they are.
func TestBytesLaid(t *testing.T) {
	for _, n := range []int{0, 1, 2, 126, 127, 128, 129, 255, 256, 1<<14 - 1, 1 << 14, 1 << 17} {
		x := bytes.Repeat([]byte{0xFF, 0, 0x80}, n)[:n]
		if b, w := laid(func(w *wire.Writer) { w.Bytes(x) }), append(number(uint64(n)), x...); !bytes.Equal(b, w) {
			t.Errorf("%d bytes aren't laid down behind their number", n)
		}
	}
	if b := laid(func(w *wire.Writer) { w.Bytes(nil) }); !bytes.Equal(b, []byte{0}) {
		t.Errorf("Bytes(nil): %v", b)
	}
}

// P2.1: all that was laid down, in turn; nothing in a zero Writer; telling takes nothing away.
func TestTold(t *testing.T) {
	var w, other wire.Writer
	if b := w.Told(); len(b) != 0 {
		t.Errorf("a zero Writer has %v", b)
	}
	w.Uint(300)
	first := w.Told()
	w.Int(-2)
	w.Bytes([]byte("x"))
	w.Bytes(nil)
	w.Uint(0)
	for range 2 {
		if b := w.Told(); !bytes.Equal(b, []byte{172, 2, 3, 1, 'x', 0, 0}) {
			t.Errorf("told: %v", b)
		}
	}
	if !bytes.Equal(first, []byte{172, 2}) {
		t.Errorf("what was told became %v", first)
	}
	if b := other.Told(); len(b) != 0 {
		t.Errorf("another Writer has %v", b)
	}
}

// R3: what is handed in to a Writer, and what it told, is shared with nothing.
func TestWriterSharesNothing(t *testing.T) {
	var w wire.Writer
	x := []byte("abc")
	w.Bytes(x[:2])
	if string(x) != "abc" {
		t.Errorf("what was handed in became %q", x)
	}
	x[0] = 'z'
	b, c := w.Told(), w.Told()
	b[1] = 'y'
	_ = append(b[:1], "yyyyyyyy"...)
	w.Uint(5)
	if string(c) != "\x02ab" || string(w.Told()) != "\x02ab\x05" {
		t.Errorf("told %q, and then %q", c, w.Told())
	}
	w.Bytes(w.Told())
	if string(w.Told()) != "\x02ab\x05\x04\x02ab\x05" {
		t.Errorf("told of itself: %q", w.Told())
	}
}

// P2.2: numbers are read as they were laid down, and the reader is behind them then.
func TestUintRead(t *testing.T) {
	for _, n := range numbers() {
		b := string(number(n))
		taken(t, unsigned(), b, fmt.Sprint(n), 0)
		taken(t, unsigned(), b+"\x80", fmt.Sprint(n), 1)
		taken(t, unsigned(), b+"\x00\x00\xFF", fmt.Sprint(n), 3)
	}
}

// P2.2: numbers that end too early, or have more bytes than they need, or a tenth one above 1.
func TestUintFaults(t *testing.T) {
	nine := strings.Repeat("\x80", 9)
	full := strings.Repeat("\xFF", 9)
	for _, c := range []struct {
		b    string
		code api.Errno
	}{
		{"", api.ErrShort},
		{"\x80", api.ErrShort},
		{"\xFF\xFF", api.ErrShort},
		{nine, api.ErrShort},
		{full, api.ErrShort},
		{"\x80\x00", api.ErrForm},
		{"\xFF\x00", api.ErrForm},
		{"\x80\x80\x00", api.ErrForm},
		{"\x80\x00\x80", api.ErrForm},
		{nine + "\x00", api.ErrForm},
		{full + "\x00", api.ErrForm},
		{nine + "\x02", api.ErrForm},
		{full + "\x02", api.ErrForm},
		{full + "\x03", api.ErrForm},
		{full + "\x7F", api.ErrForm},
		{nine + "\x80", api.ErrForm}, // b ends within it, but the tenth byte is told first
		{nine + "\x81", api.ErrForm},
		{full + "\xFF", api.ErrForm},
		{nine + "\x80\x00", api.ErrForm},
		{nine + "\x81\x01", api.ErrForm},
		{full + "\xFF\xFF\xFF", api.ErrForm},
		{strings.Repeat("\xFF", 100), api.ErrForm},
	} {
		for _, r := range []reads{unsigned(), signed(), small(math.MaxInt), small(-1), text(math.MaxInt), text(-1)} {
			refused(t, r, c.b, c.code) // ahead of ErrOver, too
		}
	}
	taken(t, unsigned(), nine+"\x01\x09", fmt.Sprint(uint64(1)<<63), 1)
	taken(t, unsigned(), full+"\x01\x80", fmt.Sprint(uint64(math.MaxUint64)), 1)
	taken(t, unsigned(), "\x00\x00", "0", 1)
}

// model is what the chapter says of the number at the beginning of b: how many bytes it has, or its error.
func model(b []byte) (int, api.Errno) {
	end := slices.IndexFunc(b, func(c byte) bool { return c < 128 })
	if ten := len(b) > 9 && (end < 0 || end > 8); ten && b[9] > 1 {
		return 0, api.ErrForm
	}
	if end < 0 {
		return 0, api.ErrShort
	}
	if n, size := binary.Uvarint(b); size != len(binary.AppendUvarint(nil, n)) {
		return 0, api.ErrForm
	}
	return end + 1, api.OK
}

// modelled tells unless b is read as the model says.
func modelled(t *testing.T, b []byte) {
	t.Helper()
	size, code := model(b)
	r := wire.From(b)
	n, e := r.Uint()
	if wire.Code(e) != code || r.Left() != len(b)-size {
		t.Fatalf("%v: %v, %d left, not %v, %d left", b, e, r.Left(), code, len(b)-size)
	}
	if w, _ := binary.Uvarint(b); e == nil && n != w || e != nil && n != 0 {
		t.Fatalf("%v: %d, %v", b, n, e)
	}
}

// P2.2: all rows of up to two bytes, and others of up to twelve, most of whose bytes go on.
func TestUintOfAll(t *testing.T) {
	for i := range 256 {
		modelled(t, []byte{byte(i)})
		for j := range 256 {
			modelled(t, []byte{byte(i), byte(j)})
		}
	}
	r := rand.New(rand.NewSource(2))
	for range 100000 {
		b := make([]byte, r.Intn(13))
		for i := range b {
			b[i] = byte(r.Intn(256)) | 128
			if r.Intn(8) == 0 {
				b[i] = byte(r.Intn(3))
			}
		}
		modelled(t, b)
	}
}

// P2.2: Int reads a number as Uint does, with its sign.
func TestIntRead(t *testing.T) {
	for b, told := range map[string]string{
		"\x00": "0", "\x01": "-1", "\x02": "1", "\x03": "-2", "\x7E": "63", "\x7F": "-64", "\x80\x01": "64",
		"\xFE\xFF\xFF\xFF\xFF\xFF\xFF\xFF\xFF\x01": "9223372036854775807",
		"\xFF\xFF\xFF\xFF\xFF\xFF\xFF\xFF\xFF\x01": "-9223372036854775808",
	} {
		taken(t, signed(), b, told, 0)
		taken(t, signed(), b+"\x05\x80", told, 2)
	}
	for _, n := range numbers() {
		w, _ := binary.Varint(number(n))
		taken(t, signed(), string(number(n))+"z", fmt.Sprint(w), 1)
	}
}

// P2.2: Small reads numbers up to most, that included, and none at all, if most is below 0.
func TestSmall(t *testing.T) {
	for _, c := range []struct {
		n    uint64
		most int
		code api.Errno
	}{
		{0, 0, api.OK}, {1, 0, api.ErrOver}, {7, 7, api.OK}, {6, 7, api.OK}, {8, 7, api.ErrOver},
		{300, 299, api.ErrOver}, {300, 300, api.OK}, {0, -1, api.ErrOver}, {5, -1, api.ErrOver}, {0, math.MinInt, api.ErrOver},
		{math.MaxInt64, math.MaxInt64, api.OK}, {math.MaxInt64 - 1, math.MaxInt64, api.OK}, {math.MaxInt64, math.MaxInt64 - 1, api.ErrOver},
		{1 << 63, math.MaxInt64, api.ErrOver}, {1<<63 + 5, 9, api.ErrOver}, {1<<32 + 1, 5, api.ErrOver},
		{math.MaxUint64, math.MaxInt64, api.ErrOver}, {math.MaxUint64, -1, api.ErrOver}, {math.MaxUint64, 0, api.ErrOver},
	} {
		if b := string(number(c.n)); c.code != api.OK {
			refused(t, small(c.most), b, c.code)
			refused(t, small(c.most), b+"\x01\x01", c.code)
		} else {
			taken(t, small(c.most), b, fmt.Sprint(c.n), 0)
			taken(t, small(c.most), b+"\x80", fmt.Sprint(c.n), 1)
		}
	}
}

// P2.2: Bytes reads as many as their number tells, up to most; the reader stays ahead of the number with an error.
func TestBytes(t *testing.T) {
	taken(t, text(2), "\x02ab", "ab", 0)
	taken(t, text(9), "\x02abc", "ab", 1)
	taken(t, text(0), "\x00", "", 0)
	taken(t, text(0), "\x00\x00", "", 1)
	taken(t, text(math.MaxInt), "\x01\x80", "\x80", 0)
	long := strings.Repeat("xyz", 100)
	taken(t, text(300), "\xAC\x02"+long+"\x00", long, 1)
	refused(t, text(299), "\xAC\x02"+long, api.ErrOver)
	refused(t, text(300), "\xAC\x02"+long[1:], api.ErrShort)
	refused(t, text(1), "\x02ab", api.ErrOver)
	refused(t, text(1), "\x02", api.ErrOver) // ahead of ErrShort
	refused(t, text(8), "\x09\x01", api.ErrOver)
	refused(t, text(-1), "\x00", api.ErrOver)
	refused(t, text(math.MinInt), "\x02a", api.ErrOver)
	refused(t, text(2), "\x02a", api.ErrShort)
	refused(t, text(2), "\x02", api.ErrShort)
	refused(t, text(math.MaxInt), "\x01", api.ErrShort)
	for _, n := range []uint64{1 << 31, 1 << 32, 1<<32 + 1, math.MaxInt64 - 1, math.MaxInt64} {
		refused(t, text(math.MaxInt), string(number(n))+"abcd", api.ErrShort)
	}
	for _, n := range []uint64{1 << 63, 1<<63 + 2, math.MaxUint64 - 1, math.MaxUint64} {
		refused(t, text(math.MaxInt), string(number(n))+"abcd", api.ErrOver)
	}
}

// P2.2: a reader that was refused goes on, where it stands, with another call.
func TestGoesOn(t *testing.T) {
	r := wire.From([]byte("\x02ab\xAC\x02"))
	if _, e := r.Bytes(1); !errors.Is(e, api.ErrOver) {
		t.Errorf("Bytes(1): %v", e)
	}
	if n, e := r.Small(2); n != 2 || e != nil {
		t.Errorf("Small(2): %d, %v", n, e)
	}
	if n, e := r.Int(); n != -49 || e != nil {
		t.Errorf("Int: %d, %v", n, e)
	}
	if _, e := r.Bytes(97); !errors.Is(e, api.ErrOver) || wire.At(e) != 2 {
		t.Errorf("Bytes(97): %v", e)
	}
	if _, e := r.Bytes(98); !errors.Is(e, api.ErrShort) || wire.At(e) != 2 {
		t.Errorf("Bytes(98): %v", e)
	}
	if n, e := r.Uint(); n != 98 || e != nil {
		t.Errorf("Uint: %d, %v", n, e)
	}
	wrong(t, "End of two", r.End(), api.ErrForm, 3)
	if n, e := r.Uint(); n != 300 || e != nil || r.End() != nil || r.Left() != 0 {
		t.Errorf("Uint: %d, %v", n, e)
	}
	_, e := r.Uint()
	wrong(t, "Uint at the end", e, api.ErrShort, 5)
}

// P2.2: End and Left tell what is left, and change nothing.
func TestEndLeft(t *testing.T) {
	for n := range 5 {
		r := wire.From(make([]byte, n))
		for i := range n {
			for range 2 {
				wrong(t, fmt.Sprintf("End at %d of %d", i, n), r.End(), api.ErrForm, i)
				if r.Left() != n-i {
					t.Errorf("at %d of %d: %d left", i, n, r.Left())
				}
			}
			if _, e := r.Uint(); e != nil {
				t.Fatal(e)
			}
		}
		if e := r.End(); e != nil || r.Left() != 0 {
			t.Errorf("behind %d: %v, %d left", n, e, r.Left())
		}
	}
}

// P2.2, R2, R5: a Reader that is nil has ErrShort, and no end that is missed; so has one of nothing.
func TestReaderOfNothing(t *testing.T) {
	var zero wire.Reader
	for name, r := range map[string]*wire.Reader{"nil": nil, "zero": &zero, "of nil": wire.From(nil), "of none": wire.From([]byte{})} {
		for _, c := range []reads{unsigned(), signed(), small(5), small(-1), small(math.MinInt), text(5), text(0), text(-1), text(math.MaxInt)} {
			v, e := c.call(r)
			wrong(t, name+": "+c.name, e, api.ErrShort, 0)
			if v != "0" && v != "" {
				t.Errorf("%s: %s told %q", name, c.name, v)
			}
		}
		if e := r.End(); e != nil || r.Left() != 0 {
			t.Errorf("%s: %v, %d left", name, e, r.Left())
		}
	}
}

// R3: a reader has bytes of its own, and what it told is the caller's.
func TestReaderSharesNothing(t *testing.T) {
	b := []byte("\x02ab\x02cd")
	was := slices.Clone(b)
	r, other := wire.From(b), wire.From(b)
	clear(b)
	x, e := r.Bytes(2)
	if string(x) != "ab" || e != nil {
		t.Fatalf("Bytes: %q, %v", x, e)
	}
	x[0] = 'z'
	_ = append(x, "zzzz"...)
	if y, e := r.Bytes(2); string(y) != "cd" || e != nil {
		t.Errorf("behind it: %q, %v", y, e)
	}
	if y, e := other.Bytes(2); string(y) != "ab" || e != nil || other.Left() != 3 {
		t.Errorf("of another: %q, %v", y, e)
	}
	r = wire.From(was)
	for range 2 {
		y, _ := r.Bytes(2)
		clear(y)
	}
	if string(was) != "\x02ab\x02cd" {
		t.Errorf("what was handed in became %q", was)
	}
}

// above is an error that wraps another.
type above struct{ below error }

func (a above) Error() string { return "above" }

func (a above) Unwrap() error { return a.below }

// P2.3: the first Errno, and the place, are found through whatever wraps them.
func TestCodeAt(t *testing.T) {
	r := wire.From([]byte{0, 0, 128})
	r.Uint()
	_, over := r.Small(-1)
	r.Uint()
	_, short := r.Uint()
	for _, c := range []struct {
		name string
		e    error
		code api.Errno
		at   int
	}{
		{"nil", nil, api.OK, -1},
		{"one that wraps none", errors.New("x"), api.ErrArg, -1},
		{"one that wraps nil", above{nil}, api.ErrArg, -1},
		{"one that wraps one that wraps none", above{errors.New("x")}, api.ErrArg, -1},
		{"an Errno", api.ErrFunds, api.ErrFunds, -1},
		{"OK itself", api.OK, api.OK, -1},
		{"an Errno of no name", api.Errno(-7), api.Errno(-7), -1},
		{"one that wraps an Errno", above{api.ErrRate}, api.ErrRate, -1},
		{"one of wire's", over, api.ErrOver, 1},
		{"another one", short, api.ErrShort, 2},
		{"one that wraps it", above{short}, api.ErrShort, 2},
		{"one deeper", above{fmt.Errorf("x: %w", above{over})}, api.ErrOver, 1},
		{"several", errors.Join(errors.New("x"), above{short}, over), api.ErrShort, 2},
		{"several, the other way about", errors.Join(over, short), api.ErrOver, 1},
		{"an Errno ahead of one with a place", errors.Join(api.ErrKill, short), api.ErrKill, 2},
		{"several without any", errors.Join(errors.New("x"), errors.New("y")), api.ErrArg, -1},
	} {
		if code := wire.Code(c.e); code != c.code {
			t.Errorf("Code of %s: %v, not %v", c.name, code, c.code)
		}
		if at := wire.At(c.e); at != c.at {
			t.Errorf("At of %s: %d, not %d", c.name, at, c.at)
		}
	}
}

// P2.3: an error stays as it was told, wherever the reader goes on to.
func TestErrorsStay(t *testing.T) {
	r := wire.From([]byte{9, 9, 9})
	_, first := r.Small(1)
	r.Uint()
	_, second := r.Small(1)
	r.Uint()
	r.Uint()
	wrong(t, "the first", first, api.ErrOver, 0)
	wrong(t, "the second", second, api.ErrOver, 1)
	if first.Error() == "" || first.Error() == second.Error() {
		t.Errorf("they tell %q and %q", first, second)
	}
}

// bad is an error of somebody else's that panics when it is asked what it wraps.
type bad struct{ asked string }

func (b *bad) Error() string { return "bad" }

func (b *bad) Unwrap() error { panic(b.asked) }

// worse is one that panics having told something already.
type worse struct{}

func (worse) Error() string { return "worse" }

func (worse) As(target any) bool {
	if code, ok := target.(*api.Errno); ok {
		*code = api.ErrKill
	}
	panic("worse")
}

// liar is one that tells something, and says that it told nothing.
type liar struct{}

func (liar) Error() string { return "liar" }

func (liar) As(target any) bool {
	if code, ok := target.(*api.Errno); ok {
		*code = api.ErrKill
	}
	return false
}

// P1: Code and At end, and don't panic, at errors that do.
func TestBadErrors(t *testing.T) {
	var none *bad
	for name, e := range map[string]error{
		"bad": &bad{"x"}, "nil": none, "wrapped": above{&bad{}}, "joined": errors.Join(errors.New("x"), none),
		"worse": worse{}, "worse, wrapped": above{worse{}}, "liar": liar{},
	} {
		if code := wire.Code(e); code != api.ErrArg {
			t.Errorf("Code of %s: %v", name, code)
		}
		if at := wire.At(e); at != -1 {
			t.Errorf("At of %s: %d", name, at)
		}
	}
	_, short := wire.From(nil).Uint()
	if e := errors.Join(short, none); wire.Code(e) != api.ErrShort || wire.At(e) != 0 {
		t.Errorf("of one ahead of a bad one: %v, %d", wire.Code(e), wire.At(e))
	}
}

// P1: so do both at an error of many levels.
func TestDeepErrors(t *testing.T) {
	_, e := wire.From(nil).Uint()
	for range 1 << 16 {
		e = above{e}
	}
	if wire.Code(e) != api.ErrShort || wire.At(e) != 0 {
		t.Errorf("of many levels: %v, %d", wire.Code(e), wire.At(e))
	}
}

// thing is something to lay down: a number, one with a sign, a small one, or bytes.
type thing struct {
	kind int
	n    uint64
	b    []byte
}

// things are some, by chance, but the same in every run.
func things(r *rand.Rand) []thing {
	l := make([]thing, r.Intn(30))
	for i := range l {
		l[i] = thing{kind: r.Intn(4), n: r.Uint64() >> r.Intn(64)}
		if l[i].kind == 2 {
			l[i].n >>= 1
		}
		if l[i].kind == 3 {
			l[i].b = make([]byte, r.Intn(200))
			r.Read(l[i].b)
		}
	}
	return l
}

func (x thing) lay(w *wire.Writer) {
	switch x.kind {
	case 0:
		w.Uint(x.n)
	case 1:
		w.Int(int64(x.n))
	case 2:
		w.Uint(x.n)
	case 3:
		w.Bytes(x.b)
	}
}

// read is a thing of a kind, read.
func read(kind int, r *wire.Reader) (thing, error) {
	x := thing{kind: kind}
	var e error
	switch kind {
	case 0:
		x.n, e = r.Uint()
	case 1:
		var n int64
		n, e = r.Int()
		x.n = uint64(n)
	case 2:
		var n int
		n, e = r.Small(math.MaxInt)
		x.n = uint64(n)
	case 3:
		x.b, e = r.Bytes(math.MaxInt)
	}
	return x, e
}

// P2.4: what is laid down is read as it was, with nothing left.
func TestThereAndBack(t *testing.T) {
	c := rand.New(rand.NewSource(3))
	for range 2000 {
		l := things(c)
		b := laid(func(w *wire.Writer) {
			for _, x := range l {
				x.lay(w)
			}
		})
		r := wire.From(b)
		for _, x := range l {
			y, e := read(x.kind, r)
			if (x.kind != 3 && y.n != x.n) || !bytes.Equal(y.b, x.b) || e != nil {
				t.Fatalf("%v was read as %v, %v", x, y, e)
			}
		}
		if e := r.End(); e != nil || r.Left() != 0 {
			t.Fatalf("%v: %d left, %v", l, r.Left(), e)
		}
	}
}

// P2.4: what is read, of whatever bytes, is laid down as it stood.
func TestBackAndThere(t *testing.T) {
	c := rand.New(rand.NewSource(4))
	for range 50000 {
		b := make([]byte, c.Intn(40))
		c.Read(b)
		if c.Intn(2) == 0 { // more of them short
			for i := range b {
				b[i] &= 0x83
			}
		}
		r := wire.From(b)
		var w wire.Writer
		for {
			x, e := read(c.Intn(4), r)
			if e != nil {
				break
			}
			x.lay(&w)
			if told := w.Told(); !bytes.Equal(told, b[:len(b)-r.Left()]) {
				t.Fatalf("of %v: %v, with %d left", b, told, r.Left())
			}
		}
	}
}

// R4: nothing is kept but in the objects; those of others don't touch.
func TestNothingKept(t *testing.T) {
	var all sync.WaitGroup
	for i := range 8 {
		all.Go(func() {
			l := things(rand.New(rand.NewSource(int64(i))))
			for range 100 {
				var w wire.Writer
				for _, x := range l {
					x.lay(&w)
				}
				r := wire.From(w.Told())
				for _, x := range l {
					if y, e := read(x.kind, r); e != nil || !bytes.Equal(y.b, x.b) {
						t.Errorf("%v was read as %v, %v", x, y, e)
					}
				}
			}
		})
	}
	all.Wait()
}

// P1: many numbers, and many bytes.
func TestMany(t *testing.T) {
	const n = 1 << 20
	var w wire.Writer
	for i := range uint64(n) {
		w.Uint(i)
	}
	w.Bytes(make([]byte, 4*n))
	r := wire.From(w.Told())
	for i := range uint64(n) {
		if m, e := r.Uint(); m != i || e != nil {
			t.Fatalf("%d was read as %d, %v", i, m, e)
		}
	}
	if b, e := r.Bytes(4 * n); len(b) != 4*n || e != nil || r.End() != nil {
		t.Errorf("%d bytes, %v", len(b), e)
	}
}
