package cmd_test

import (
	"bytes"
	"encoding/binary"
	"errors"
	"fmt"
	"math"
	"math/rand"
	"slices"
	"strings"
	"sync"
	"testing"

	"agio/api"
	"agio/cmd"
	"agio/wire"
)

const (
	top      = 1 << 40
	maxPrice = 1 << 30
	maxQty   = 1 << 30
)

// Which fields a kind has, as the chapter's words name them; an offset is a Price that may be 0 and below.
var has = map[int]string{
	api.CmdNone:     "",
	api.CmdLimit:    "side price qty",
	api.CmdMarket:   "side qty",
	api.CmdIoc:      "side price qty",
	api.CmdFok:      "side price qty",
	api.CmdPost:     "side price qty",
	api.CmdPeg:      "side offset qty",
	api.CmdCancel:   "id",
	api.CmdReplace:  "id price qty",
	api.CmdDeposit:  "asset qty",
	api.CmdWithdraw: "asset qty",
	api.CmdRef:      "price",
}

// either tells whether a field that a kind has may be, or one that it hasn't is 0.
func either(kind int, name string, may bool, v int64) bool {
	if slices.Contains(strings.Fields(has[kind]), name) {
		return may
	}
	return v == 0
}

// may is P5.1, as its words say it.
func may(c api.Cmd) bool {
	if _, is := has[c.Kind]; !is {
		return false
	}
	price := either(c.Kind, "price", c.Price >= 1 && c.Price <= maxPrice, c.Price)
	if c.Kind == api.CmdPeg {
		price = c.Price >= -maxPrice && c.Price <= maxPrice
	}
	return c.Client >= 1 && c.Client <= 64 && c.Seq >= 1 && c.Seq <= top && c.Time >= 0 && c.Time <= top && price &&
		either(c.Kind, "side", c.Side == 1 || c.Side == 2, int64(c.Side)) &&
		either(c.Kind, "asset", c.Asset == 0 || c.Asset == 1, int64(c.Asset)) &&
		either(c.Kind, "qty", c.Qty >= 1 && c.Qty <= maxQty, c.Qty) &&
		either(c.Kind, "id", c.Id >= 1 && c.Id <= top, c.Id)
}

// bytesOf is how a command is laid down, whether it may be or not: by the library's numbers, which are those of chapter 2.
func bytesOf(c api.Cmd) []byte {
	b := binary.AppendUvarint(nil, uint64(c.Kind))
	b = binary.AppendUvarint(b, uint64(c.Client))
	for _, n := range []int64{c.Seq, c.Time, int64(c.Side), int64(c.Asset), c.Price, c.Qty, c.Id} {
		b = binary.AppendVarint(b, n)
	}
	return b
}

// ordinary is a command of each kind.
func ordinary(kind int) api.Cmd {
	c := api.Cmd{Kind: kind, Client: 3, Seq: 2, Time: 7}
	for _, f := range strings.Fields(has[kind]) {
		switch f {
		case "side":
			c.Side = api.Sell
		case "asset":
			c.Asset = api.Stock
		case "price":
			c.Price = 100
		case "offset":
			c.Price = -4
		case "qty":
			c.Qty = 9
		case "id":
			c.Id = 5
		}
	}
	return c
}

// fields are the places of a command's numbers, in order.
func fields(c *api.Cmd) []func(n int64) {
	number := func(p *int64) func(int64) { return func(n int64) { *p = n } }
	small := func(p *int) func(int64) { return func(n int64) { *p = int(n) } }
	return []func(int64){small(&c.Kind), small(&c.Client), number(&c.Seq), number(&c.Time), small(&c.Side), small(&c.Asset), number(&c.Price), number(&c.Qty), number(&c.Id)}
}

// edges are all numbers at which something that the chapter names begins or ends, and numbers that come round to them.
func edges() []int64 {
	l := []int64{math.MinInt64, math.MinInt64 + 1, math.MaxInt64 - 1, math.MaxInt64}
	for _, n := range []int64{0, 1, 2, 11, 64, 1000, maxPrice, top, 1 << 8, 1 << 16, 1 << 31, 1 << 32, 1 << 62} {
		for d := int64(-2); d <= 2; d++ {
			l = append(l, n+d, -n+d)
		}
	}
	slices.Sort(l)
	return slices.Compact(l)
}

// turned calls with each ordinary command, and each that has one number or two of it at an edge.
func turned(call func(c api.Cmd)) {
	l := edges()
	for kind := range 12 {
		call(ordinary(kind))
		for i := range 9 {
			for _, n := range l {
				c := ordinary(kind)
				fields(&c)[i](n)
				call(c)
			}
		}
	}
	r := rand.New(rand.NewSource(1))
	for range 40000 {
		c := ordinary(r.Intn(12))
		for range 2 {
			fields(&c)[r.Intn(9)](l[r.Intn(len(l))])
		}
		call(c)
	}
}

// wraps tells unless e is an error that wraps below, and that code with it, and has that place.
func wraps(t *testing.T, what string, e, below error, code api.Errno, at int) {
	t.Helper()
	var found api.Errno
	switch {
	case e == nil:
		t.Errorf("%s: no error, not %v", what, code)
		return
	case !errors.Is(e, below):
		t.Errorf("%s: %v doesn't wrap %v", what, e, below)
	case e == below:
		t.Errorf("%s: %v wraps nothing: it is that of below", what, e)
	case errors.Unwrap(e) != below:
		t.Errorf("%s: %v wraps %v, not %v at once", what, e, errors.Unwrap(e), below)
	case !errors.Is(e, code) || !errors.As(e, &found) || found != code || wire.Code(e) != code:
		t.Errorf("%s: %v has %v, not %v", what, e, found, code)
	case wire.At(e) != at:
		t.Errorf("%s: At: %d, not %d", what, wire.At(e), at)
	case !strings.Contains(e.Error(), below.Error()) || e.Error() == below.Error():
		t.Errorf("%s: %q tells no more than %q, or less", what, e.Error(), below.Error())
	}
	for other := api.OK; other <= api.ErrState; other++ {
		if other != code && errors.Is(e, other) {
			t.Errorf("%s: %v is %v, too", what, e, other)
		}
	}
}

// The chapter's example.
func TestExample(t *testing.T) {
	c := api.Cmd{Kind: api.CmdDeposit, Client: 1, Seq: 1, Asset: api.Cash, Qty: 5}
	want := []byte{9, 1, 2, 0, 0, 0, 0, 10, 0}
	if b, e := cmd.Encode(c); e != nil || !bytes.Equal(b, want) {
		t.Errorf("Encode: %v, %v, not %v", b, e, want)
	}
	if d, e := cmd.Decode(want); e != nil || d != c {
		t.Errorf("Decode: %v, %v, not %v", d, e, c)
	}
}

// P5.1: a command of each kind, with all of its fields at either end, may be; the kinds have the numbers of DOC.md.
func TestMayBe(t *testing.T) {
	for _, c := range []api.Cmd{
		{Kind: 0, Client: 1, Seq: 1},
		{Kind: 0, Client: 64, Seq: top, Time: top},
		{Kind: 1, Client: 1, Seq: 1, Side: 1, Price: 1, Qty: 1},
		{Kind: 1, Client: 64, Seq: top, Time: top, Side: 2, Price: maxPrice, Qty: maxQty},
		{Kind: 2, Client: 1, Seq: 1, Side: 1, Qty: 1},
		{Kind: 2, Client: 1, Seq: 1, Side: 2, Qty: maxQty},
		{Kind: 3, Client: 1, Seq: 1, Side: 1, Price: 1, Qty: 1},
		{Kind: 3, Client: 1, Seq: 1, Side: 2, Price: maxPrice, Qty: maxQty},
		{Kind: 4, Client: 1, Seq: 1, Side: 1, Price: 1, Qty: 1},
		{Kind: 4, Client: 1, Seq: 1, Side: 2, Price: maxPrice, Qty: maxQty},
		{Kind: 5, Client: 1, Seq: 1, Side: 1, Price: 1, Qty: 1},
		{Kind: 5, Client: 1, Seq: 1, Side: 2, Price: maxPrice, Qty: maxQty},
		{Kind: 6, Client: 1, Seq: 1, Side: 1, Price: -maxPrice, Qty: 1},
		{Kind: 6, Client: 1, Seq: 1, Side: 1, Price: 0, Qty: 1},
		{Kind: 6, Client: 1, Seq: 1, Side: 2, Price: maxPrice, Qty: maxQty},
		{Kind: 7, Client: 1, Seq: 1, Id: 1},
		{Kind: 7, Client: 1, Seq: 1, Id: top},
		{Kind: 8, Client: 1, Seq: 1, Price: 1, Qty: 1, Id: 1},
		{Kind: 8, Client: 1, Seq: 1, Price: maxPrice, Qty: maxQty, Id: top},
		{Kind: 9, Client: 1, Seq: 1, Asset: 0, Qty: 1},
		{Kind: 9, Client: 1, Seq: 1, Asset: 1, Qty: maxQty},
		{Kind: 10, Client: 1, Seq: 1, Asset: 0, Qty: 1},
		{Kind: 10, Client: 1, Seq: 1, Asset: 1, Qty: maxQty},
		{Kind: 11, Client: 1, Seq: 1, Price: 1},
		{Kind: 11, Client: 1, Seq: 1, Price: maxPrice},
	} {
		if code := cmd.May(c); code != api.OK {
			t.Errorf("%+v: %v", c, code)
		}
	}
}

// P5.1: what is beyond an end, or no field of the kind, may not be.
func TestMayNotBe(t *testing.T) {
	for _, c := range []api.Cmd{
		{},
		{Kind: -1, Client: 1, Seq: 1},
		{Kind: 12, Client: 1, Seq: 1},
		{Kind: 0, Client: 0, Seq: 1},
		{Kind: 0, Client: -1, Seq: 1},
		{Kind: 0, Client: 65, Seq: 1},
		{Kind: 0, Client: 1, Seq: 0},
		{Kind: 0, Client: 1, Seq: -1},
		{Kind: 0, Client: 1, Seq: top + 1},
		{Kind: 0, Client: 1, Seq: 1, Time: -1},
		{Kind: 0, Client: 1, Seq: 1, Time: top + 1},
		{Kind: 0, Client: 1, Seq: 1, Side: 1},
		{Kind: 0, Client: 1, Seq: 1, Asset: 1},
		{Kind: 0, Client: 1, Seq: 1, Price: 1},
		{Kind: 0, Client: 1, Seq: 1, Qty: 1},
		{Kind: 0, Client: 1, Seq: 1, Id: 1},
		{Kind: 1, Client: 1, Seq: 1, Side: 0, Price: 1, Qty: 1},
		{Kind: 1, Client: 1, Seq: 1, Side: 3, Price: 1, Qty: 1},
		{Kind: 1, Client: 1, Seq: 1, Side: 1, Price: 0, Qty: 1},
		{Kind: 1, Client: 1, Seq: 1, Side: 1, Price: maxPrice + 1, Qty: 1},
		{Kind: 1, Client: 1, Seq: 1, Side: 1, Price: 1, Qty: 0},
		{Kind: 1, Client: 1, Seq: 1, Side: 1, Price: 1, Qty: maxQty + 1},
		{Kind: 1, Client: 1, Seq: 1, Side: 1, Price: 1, Qty: 1, Asset: 1},
		{Kind: 1, Client: 1, Seq: 1, Side: 1, Price: 1, Qty: 1, Id: 1},
		{Kind: 2, Client: 1, Seq: 1, Side: 1, Price: 1, Qty: 1},
		{Kind: 6, Client: 1, Seq: 1, Side: 1, Price: -maxPrice - 1, Qty: 1},
		{Kind: 6, Client: 1, Seq: 1, Side: 1, Price: maxPrice + 1, Qty: 1},
		{Kind: 6, Client: 1, Seq: 1, Side: 1, Qty: 1, Id: 1},
		{Kind: 7, Client: 1, Seq: 1, Id: 0},
		{Kind: 7, Client: 1, Seq: 1, Id: top + 1},
		{Kind: 7, Client: 1, Seq: 1, Id: 1, Side: 1},
		{Kind: 8, Client: 1, Seq: 1, Id: 1, Price: 0, Qty: 1},
		{Kind: 8, Client: 1, Seq: 1, Id: 1, Price: -1, Qty: 1},
		{Kind: 8, Client: 1, Seq: 1, Id: 1, Price: 1, Qty: 1, Side: 1},
		{Kind: 9, Client: 1, Seq: 1, Asset: 2, Qty: 1},
		{Kind: 9, Client: 1, Seq: 1, Asset: -1, Qty: 1},
		{Kind: 9, Client: 1, Seq: 1, Asset: 1, Qty: 0},
		{Kind: 10, Client: 1, Seq: 1, Asset: 1, Qty: 1, Price: 1},
		{Kind: 11, Client: 1, Seq: 1, Price: 0},
		{Kind: 11, Client: 1, Seq: 1, Price: 1, Qty: 1},
	} {
		if code := cmd.May(c); code != api.ErrArg {
			t.Errorf("%+v: %v", c, code)
		}
	}
}

// P5.1: as its words say it, of commands that have one number or two at an edge of any kind.
func TestMayAtEdges(t *testing.T) {
	is, isn := 0, 0
	turned(func(c api.Cmd) {
		want := api.ErrArg
		if may(c) {
			want = api.OK
			is++
		} else {
			isn++
		}
		if code := cmd.May(c); code != want {
			t.Fatalf("%+v: %v, not %v", c, code, want)
		}
	})
	if is < 1000 || isn < 1000 {
		t.Errorf("%d may be, %d may not: too few of one to tell", is, isn)
	}
}

// P5.2, R1: what may be is laid down as the chapter says; of all else there is an error that wraps May's, without a place, and no bytes.
func TestEncode(t *testing.T) {
	turned(func(c api.Cmd) {
		b, e := cmd.Encode(c)
		if may(c) {
			if want := bytesOf(c); e != nil || !bytes.Equal(b, want) {
				t.Fatalf("%+v: %v, %v, not %v", c, b, e, want)
			}
			return
		}
		wraps(t, fmt.Sprintf("%+v", c), e, api.ErrArg, api.ErrArg, -1)
		if b != nil {
			t.Fatalf("%+v: %v beside an error", c, b)
		}
	})
}

// P5.2: the numbers stand in their order, each of another value, with the sign of one below 0.
func TestOrder(t *testing.T) {
	c := api.Cmd{Kind: api.CmdPeg, Client: 3, Seq: 4, Time: 300, Side: api.Sell, Price: -5, Qty: 6}
	if b, e := cmd.Encode(c); e != nil || !bytes.Equal(b, []byte{6, 3, 8, 216, 4, 4, 0, 9, 12, 0}) {
		t.Errorf("a peg: %v, %v", b, e)
	}
	c = api.Cmd{Kind: api.CmdReplace, Client: 64, Seq: 1, Price: 7, Qty: 8, Id: 9}
	if b, e := cmd.Encode(c); e != nil || !bytes.Equal(b, []byte{8, 64, 2, 0, 0, 0, 14, 16, 18}) {
		t.Errorf("a replacement: %v, %v", b, e)
	}
	c = api.Cmd{Kind: api.CmdWithdraw, Client: 2, Seq: 1, Time: 1, Asset: api.Stock, Qty: 3}
	if b, e := cmd.Encode(c); e != nil || !bytes.Equal(b, []byte{10, 2, 2, 2, 0, 2, 0, 6, 0}) {
		t.Errorf("a withdrawal: %v, %v", b, e)
	}
}

// first is what comes of b by P5.2, with the error of the layer below that is to be wrapped: nil, if May is to tell.
func first(b []byte) (api.Cmd, error) {
	var c api.Cmd
	r := wire.From(b)
	for i, set := range fields(&c) {
		if i < 2 {
			n, e := r.Small(1000)
			if e != nil {
				return c, e
			}
			set(int64(n))
			continue
		}
		n, e := r.Int()
		if e != nil {
			return c, e
		}
		set(n)
	}
	return c, r.End()
}

// decoded tells unless Decode(b) is what P5.2 says, and what is decoded, if it is, is encoded as it stood (P5.3).
func decoded(t *testing.T, b []byte) {
	t.Helper()
	what, kept := fmt.Sprint(b), slices.Clone(b)
	c, e := cmd.Decode(b)
	want, below := first(kept)
	switch {
	case below != nil:
		wraps(t, what, e, below, wire.Code(below), wire.At(below))
	case !may(want):
		wraps(t, what, e, api.ErrArg, api.ErrArg, -1)
	default:
		again, f := cmd.Encode(c)
		if e != nil || c != want || f != nil || !bytes.Equal(again, kept) {
			t.Fatalf("%s: %+v, %v, and back: %v, %v; not %+v", what, c, e, again, f, want)
		}
		return
	}
	if c != (api.Cmd{}) {
		t.Fatalf("%s: %+v beside an error", what, c)
	}
	if !bytes.Equal(b, kept) {
		t.Fatalf("%s: changed to %v", what, b)
	}
}

// P5.2, P5.3: of commands of all kinds, whether they may be or not.
func TestDecode(t *testing.T) {
	turned(func(c api.Cmd) {
		decoded(t, bytesOf(c))
	})
}

// P5.2: an error of each kind, and its place.
func TestDecodeErrors(t *testing.T) {
	long := bytes.Repeat([]byte{255}, 9)
	for _, c := range []struct {
		what string
		b    []byte
		code api.Errno
		at   int
	}{
		{"nothing", nil, api.ErrShort, 0},
		{"empty", []byte{}, api.ErrShort, 0},
		{"no client", []byte{9}, api.ErrShort, 1},
		{"no seq", []byte{9, 1}, api.ErrShort, 2},
		{"no id", []byte{9, 1, 2, 0, 0, 0, 0, 10}, api.ErrShort, 8},
		{"a torn kind", []byte{137}, api.ErrShort, 0},
		{"a torn time", []byte{9, 1, 2, 128}, api.ErrShort, 3},
		{"a kind in two bytes", []byte{137, 0, 1, 2, 0, 0, 0, 0, 10, 0}, api.ErrForm, 0},
		{"a client in two bytes", []byte{9, 129, 0, 2, 0, 0, 0, 0, 10, 0}, api.ErrForm, 1},
		{"an id in two bytes", []byte{9, 1, 2, 0, 0, 0, 0, 10, 128, 0}, api.ErrForm, 8},
		{"a seq of 65 bits", append(append([]byte{9, 1}, long...), 2, 0, 0, 0, 0, 10, 0), api.ErrForm, 2},
		{"kind 12", []byte{12, 1, 2, 0, 0, 0, 0, 0, 0}, api.ErrArg, -1},
		{"kind 1000", []byte{232, 7, 1, 2, 0, 0, 0, 0, 0, 0}, api.ErrArg, -1},
		{"kind 1001", []byte{233, 7, 1, 2, 0, 0, 0, 0, 0, 0}, api.ErrOver, 0},
		{"client 0", []byte{0, 0, 2, 0, 0, 0, 0, 0, 0}, api.ErrArg, -1},
		{"client 65", []byte{0, 65, 2, 0, 0, 0, 0, 0, 0}, api.ErrArg, -1},
		{"client 1000", []byte{0, 232, 7, 2, 0, 0, 0, 0, 0, 0}, api.ErrArg, -1},
		{"client 1001", []byte{0, 233, 7, 2, 0, 0, 0, 0, 0, 0}, api.ErrOver, 1},
		{"a seq of 64 bits", append(append([]byte{9, 1}, long...), 1, 0, 0, 0, 0, 10, 0), api.ErrArg, -1},
		{"a byte left", []byte{9, 1, 2, 0, 0, 0, 0, 10, 0, 0}, api.ErrForm, 9},
		{"the same twice", []byte{0, 1, 2, 0, 0, 0, 0, 0, 0, 0, 1, 2, 0, 0, 0, 0, 0, 0}, api.ErrForm, 9},
		{"kind 1001, and short", []byte{233, 7, 1}, api.ErrOver, 0},
		{"kind and client 1001", []byte{233, 7, 233, 7, 2, 0, 0, 0, 0, 0, 0}, api.ErrOver, 0},
		{"client 1001, and a seq in two bytes", []byte{0, 233, 7, 130, 0, 0, 0, 0, 0, 0, 0}, api.ErrOver, 1},
		{"kind 12, and short", []byte{12, 1, 2}, api.ErrShort, 3},
		{"kind 12, and a byte left", []byte{12, 1, 2, 0, 0, 0, 0, 0, 0, 0}, api.ErrForm, 9},
		{"a time in two bytes, and a byte left", []byte{0, 1, 2, 128, 0, 0, 0, 0, 0, 0, 0}, api.ErrForm, 3},
	} {
		d, e := cmd.Decode(c.b)
		if d != (api.Cmd{}) || e == nil || wire.Code(e) != c.code || wire.At(e) != c.at {
			t.Errorf("%s: %+v, %v, at %d, not %v at %d", c.what, d, e, wire.At(e), c.code, c.at)
		}
		decoded(t, c.b)
	}
}

// P5.2: each beginning of a command is short, or named for what stands at its end; a byte behind it is left.
func TestCut(t *testing.T) {
	for kind := range 12 {
		c := ordinary(kind)
		c.Seq, c.Time = top, top-1
		b, e := cmd.Encode(c)
		if e != nil {
			t.Fatalf("%+v: %v", c, e)
		}
		for i := range b {
			if d, e := cmd.Decode(b[:i]); !errors.Is(e, api.ErrShort) || d != (api.Cmd{}) {
				t.Errorf("%v: %+v, %v", b[:i], d, e)
			}
			decoded(t, b[:i])
		}
		for n := range 256 {
			if d, e := cmd.Decode(append(b, byte(n))); !errors.Is(e, api.ErrForm) || wire.At(e) != len(b) || d != (api.Cmd{}) {
				t.Errorf("%v, and %d: %+v, %v", b, n, d, e)
			}
		}
	}
}

// P5.2, P5.3: of commands with bytes turned, taken out, put in, and of rows of low bytes, some of which are commands.
func TestBytes(t *testing.T) {
	r := rand.New(rand.NewSource(1))
	is := 0
	for range 60000 {
		b := bytesOf(ordinary(r.Intn(12)))
		for range r.Intn(4) {
			i := r.Intn(len(b))
			switch r.Intn(4) {
			case 0:
				b[i] ^= 1 << r.Intn(8)
			case 1:
				b[i] = byte(r.Intn(4))
			case 2:
				b = slices.Insert(b, i, byte(128+r.Intn(128)))
			case 3:
				b = slices.Delete(b, i, i+1)
			}
			if len(b) == 0 {
				break
			}
		}
		decoded(t, b)
	}
	for range 300000 {
		b := make([]byte, 9)
		for i := range b {
			b[i] = byte(r.Intn(3))
		}
		b[0], b[1], b[2] = byte(r.Intn(13)), 1, 2
		decoded(t, b)
		if _, e := cmd.Decode(b); e == nil {
			is++
		}
	}
	if is < 500 {
		t.Errorf("%d rows are commands: too few to tell", is)
	}
}

// P5.3: of commands that may be, of all kinds, with numbers of all lengths.
func TestThereAndBack(t *testing.T) {
	r := rand.New(rand.NewSource(1))
	up := func(most int64) int64 { return 1 + r.Int63n(most)>>r.Intn(41) }
	for range 50000 {
		c := api.Cmd{Kind: r.Intn(12), Client: 1 + r.Intn(64), Seq: up(top), Time: up(top)}
		for _, f := range strings.Fields(has[c.Kind]) {
			switch f {
			case "side":
				c.Side = 1 + r.Intn(2)
			case "asset":
				c.Asset = r.Intn(2)
			case "price":
				c.Price = up(maxPrice)
			case "offset":
				c.Price = up(maxPrice) - up(maxPrice)
			case "qty":
				c.Qty = up(maxQty)
			case "id":
				c.Id = up(top)
			}
		}
		b, e := cmd.Encode(c)
		d, f := cmd.Decode(b)
		if e != nil || f != nil || d != c {
			t.Fatalf("%+v: %v, %v, %+v, %v", c, b, e, d, f)
		}
	}
}

// R3, R4: what is told is the caller's own, what is handed in is shared with nothing, and the same is told again, by whomever it is asked.
func TestOwn(t *testing.T) {
	c := ordinary(api.CmdLimit)
	want := bytesOf(c)
	a, _ := cmd.Encode(c)
	b, _ := cmd.Encode(c)
	clear(a)
	_ = append(a[:0], 1, 2, 3)
	if !bytes.Equal(b, want) {
		t.Errorf("%v: shared with %v", b, a)
	}
	in := slices.Clone(want)
	d, e := cmd.Decode(in[:3:3])
	clear(in)
	if d != (api.Cmd{}) || wire.At(e) != 3 || wire.Code(e) != api.ErrShort {
		t.Errorf("%v, %v: it hangs on what was handed in", d, e)
	}
	var all sync.WaitGroup
	for range 8 {
		all.Go(func() {
			for range 200 {
				b, e := cmd.Encode(c)
				d, f := cmd.Decode(want)
				_, g := cmd.Decode(want[:3])
				if !bytes.Equal(b, want) || e != nil || d != c || f != nil || wire.At(g) != 3 {
					t.Errorf("%v, %v, %v, %v, %v", b, e, d, f, g)
				}
			}
		})
	}
	all.Wait()
}

// P5.2: an error that a caller wraps once more is found still.
func TestWrappedOnceMore(t *testing.T) {
	_, e := cmd.Decode([]byte{9, 1})
	e = fmt.Errorf("a caller: %w", e)
	if !errors.Is(e, api.ErrShort) || wire.Code(e) != api.ErrShort || wire.At(e) != 2 {
		t.Errorf("%v: %v at %d", e, wire.Code(e), wire.At(e))
	}
}
