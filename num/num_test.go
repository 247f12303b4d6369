package num_test

import (
	"math"
	"math/big"
	"math/rand"
	"testing"

	"agio/api"
	"agio/num"
)

const (
	whole = 10000
	least = math.MinInt64
	most  = math.MaxInt64
)

// numbers are the edges, of words and of halves of them, on both sides of 0, and others of all lengths.
func numbers() []int64 {
	l := []int64{0, most, most - 1, least, least + 1, 10001, api.MaxCash}
	for _, root := range []int64{3037000499, 3037000500, 1 << 32, 2097151, 2097152} { // about the square root, and the cube root, of what can be
		l = append(l, root-1, root, root+1, -root-1, -root, 1-root)
	}
	for k := range 63 {
		l = append(l, 1<<k-1, 1<<k, 1<<k+1, 1-1<<k, -1<<k, -1<<k-1)
	}
	r := rand.New(rand.NewSource(1))
	for range 150 {
		l = append(l, int64(r.Uint64())>>r.Intn(64))
	}
	return l
}

// operation is one of the package's, and the library's own, which never runs over.
type operation struct {
	name  string
	call  func(a, b int64) (int64, bool)
	exact func(z, a, b *big.Int) *big.Int
}

func sums() operation        { return operation{"Add", num.Add, (*big.Int).Add} }
func differences() operation { return operation{"Sub", num.Sub, (*big.Int).Sub} }
func products() operation    { return operation{"Mul", num.Mul, (*big.Int).Mul} }

func operations() []operation { return []operation{sums(), differences(), products()} }

// hold tells unless the operation tells of both numbers what the library does, if that can be.
func (o operation) hold(t *testing.T, a, b int64) {
	t.Helper()
	exact := o.exact(new(big.Int), big.NewInt(a), big.NewInt(b))
	want, can := int64(0), exact.IsInt64()
	if can {
		want = exact.Int64()
	}
	if n, is := o.call(a, b); n != want || is != can {
		t.Fatalf("%s(%d, %d): %d, %v, not %d, %v", o.name, a, b, n, is, want, can)
	}
}

// known is what an operation must tell of both numbers.
type known struct {
	a, b, n int64
	is      bool
}

func (o operation) known(t *testing.T, l []known) {
	t.Helper()
	for _, k := range l {
		if n, is := o.call(k.a, k.b); n != k.n || is != k.is {
			t.Errorf("%s(%d, %d): %d, %v, not %d, %v", o.name, k.a, k.b, n, is, k.n, k.is)
		}
	}
}

// P4.1, P4.2: the examples of the chapter.
func TestExamples(t *testing.T) {
	if n, is := num.Up(10001, 1); n != 2 || !is {
		t.Errorf("Up(10001, 1): %d, %v", n, is)
	}
	if n, is := num.Down(10001, 1); n != 1 || !is {
		t.Errorf("Down(10001, 1): %d, %v", n, is)
	}
	if n, is := num.Mul(1<<32, 1<<31); n != 0 || is {
		t.Errorf("Mul(2^32, 2^31): %d, %v", n, is)
	}
}

// P4.1: sums that are the last that can be, and the first that can't.
func TestAddKnown(t *testing.T) {
	sums().known(t, []known{
		{0, 0, 0, true}, {5, -7, -2, true}, {least, most, -1, true},
		{most, 0, most, true}, {most - 1, 1, most, true}, {most, 1, 0, false}, {1, most, 0, false},
		{1 << 62, 1 << 62, 0, false}, {most, most, 0, false},
		{least, 0, least, true}, {-1 << 62, -1 << 62, least, true}, {least, -1, 0, false}, {-1, least, 0, false},
		{least, least, 0, false},
	})
}

// P4.1: differences likewise; of the least number, too, which isn't another one's opposite.
func TestSubKnown(t *testing.T) {
	differences().known(t, []known{
		{0, 0, 0, true}, {5, 7, -2, true}, {most, most, 0, true}, {least, least, 0, true},
		{-1, least, most, true}, {0, least, 0, false}, {1, least, 0, false}, {most, least, 0, false}, {most, -1, 0, false},
		{0, most, -most, true}, {-1, most, least, true}, {-2, most, 0, false},
		{least + 1, 1, least, true}, {least, 1, 0, false}, {least, most, 0, false},
	})
}

// P4.1: products likewise; those, too, whose low word is one that can be.
func TestMulKnown(t *testing.T) {
	products().known(t, []known{
		{0, 0, 0, true}, {-5, 7, -35, true}, {5, -7, -35, true}, {-5, -7, 35, true},
		{least, 0, 0, true}, {0, least, 0, true}, {most, 0, 0, true},
		{least, 1, least, true}, {1, least, least, true}, {1 << 32, -1 << 31, least, true}, {most, -1, -most, true},
		{least, -1, 0, false}, {-1, least, 0, false}, {-1 << 32, -1 << 31, 0, false}, {1 << 32, 1 << 31, 0, false},
		{most, 2, 0, false}, {most, most, 0, false}, {least, least, 0, false}, {least, 2, 0, false}, {most, least, 0, false},
		{1 << 32, 1 << 32, 0, false}, {-1 << 32, 1 << 32, 0, false}, {1 << 62, 4, 0, false}, {1<<62 + 1, 4, 0, false},
		{3037000499, 3037000499, 9223372030926249001, true}, {3037000500, 3037000500, 0, false},
	})
}

// P4.1: of each of both of many numbers, edges among them.
func TestOfBoth(t *testing.T) {
	l := numbers()
	for _, o := range operations() {
		for _, a := range l {
			for _, b := range l {
				o.hold(t, a, b)
			}
		}
	}
}

// P4.1: all small numbers, so that no sign is missed.
func TestSmall(t *testing.T) {
	for _, o := range operations() {
		for a := int64(-40); a <= 40; a++ {
			for b := int64(-40); b <= 40; b++ {
				o.hold(t, a, b)
			}
		}
	}
}

// P4.1: of each number those others that bring it to an end of what can be, or just beyond.
func TestEnds(t *testing.T) {
	for _, a := range numbers() {
		for _, end := range []int64{least, most} {
			for by := int64(-2); by <= 2; by++ {
				sums().hold(t, a, end-a+by)
				differences().hold(t, a, a-end+by)
				differences().hold(t, end-a+by, -a)
				if a != 0 {
					products().hold(t, a, end/a+by)
					products().hold(t, end/a+by, a)
				}
			}
		}
	}
}

// amounts are those that may be: edges, about whole ten-thousandths, and others of all lengths.
func amounts() []int64 {
	l := []int64{0, 1, 2, 3, 4999, 5000, 5001, 9999, 10000, 10001, 19999, 20000, 20001, api.MaxCash - 1, api.MaxCash}
	for k := range 60 {
		l = append(l, 1<<k-1, 1<<k, 1<<k+1)
	}
	for all := int64(1e18); all >= whole; all /= 10 {
		l = append(l, all-1, all, all+1)
	}
	r := rand.New(rand.NewSource(2))
	for range 60 {
		l = append(l, r.Int63n(api.MaxCash+1)>>r.Intn(60))
	}
	return l
}

// rates are those that may be: edges, those of fees, and others.
func rates() []int {
	l := []int{0, 1, 2, 3, 5, 8, 10, 15, 18, 20, 33, 100, 625, 1024, 2500, 3333, 4999, 5000, 5001, 6667, 7500, 8192, 9998, 9999, 10000}
	r := rand.New(rand.NewSource(3))
	for range 25 {
		l = append(l, r.Intn(whole+1))
	}
	return l
}

// parts are Up and Down of what may be.
func parts(t *testing.T, n int64, bps int) (up, down int64) {
	t.Helper()
	up, a := num.Up(n, bps)
	down, b := num.Down(n, bps)
	if !a || !b {
		t.Fatalf("%d of %d: %v, %v", bps, n, a, b)
	}
	return up, down
}

// divided tells unless both are the library's product, divided.
func divided(t *testing.T, n int64, bps int) {
	t.Helper()
	up, down := parts(t, n, bps)
	exact, left := new(big.Int).QuoRem(new(big.Int).Mul(big.NewInt(n), big.NewInt(int64(bps))), big.NewInt(whole), new(big.Int))
	want := exact.Int64()
	if down != want {
		t.Fatalf("Down(%d, %d): %d, not %d", n, bps, down, want)
	}
	if left.Sign() > 0 {
		want++
	}
	if up != want {
		t.Fatalf("Up(%d, %d): %d, not %d", n, bps, up, want)
	}
}

// P4.2: parts that are written out.
func TestPartsKnown(t *testing.T) {
	for _, c := range []struct {
		n        int64
		bps      int
		up, down int64
	}{
		{0, 0, 0, 0}, {0, 10000, 0, 0}, {1, 0, 0, 0}, {1 << 60, 0, 0, 0}, {1, 1, 1, 0}, {1, 9999, 1, 0}, {1, 10000, 1, 1},
		{9999, 1, 1, 0}, {10000, 1, 1, 1}, {10001, 20, 21, 20}, {10001, 10, 11, 10}, {4999, 2, 1, 0}, {5000, 2, 1, 1}, {5001, 2, 2, 1},
		{15000, 1, 2, 1}, {14999, 1, 2, 1}, {3, 3333, 1, 0}, {3, 6667, 3, 2},
		{1 << 60, 10000, 1 << 60, 1 << 60}, {1<<60 - 1, 10000, 1<<60 - 1, 1<<60 - 1}, {1 << 60, 1, 115292150460685, 115292150460684},
		{1 << 60, 9999, 1152806212456386292, 1152806212456386291}, {1 << 60, 5000, 1 << 59, 1 << 59},
	} {
		up, down := parts(t, c.n, c.bps)
		if up != c.up || down != c.down {
			t.Errorf("%d of %d: %d, %d, not %d, %d", c.bps, c.n, up, down, c.up, c.down)
		}
	}
}

// P4.2: parts of many amounts, and each rate of some.
func TestParts(t *testing.T) {
	for _, n := range amounts() {
		for _, bps := range rates() {
			divided(t, n, bps)
		}
	}
	for _, n := range []int64{1, 7, 9999, 10001, 1 << 53, 1<<60 - 1, 1 << 60} {
		for bps := range whole + 1 {
			divided(t, n, bps)
		}
	}
	for n := range int64(25000) {
		divided(t, n, 1)
		divided(t, n, 20)
	}
}

// P4.2: amounts and rates that may not be; one of both is enough.
func TestPartsRefused(t *testing.T) {
	refused := func(n int64, bps int) {
		t.Helper()
		if up, is := num.Up(n, bps); up != 0 || is {
			t.Errorf("Up(%d, %d): %d, %v", n, bps, up, is)
		}
		if down, is := num.Down(n, bps); down != 0 || is {
			t.Errorf("Down(%d, %d): %d, %v", n, bps, down, is)
		}
	}
	badAmounts := []int64{-1, -2, -10000, -1 << 60, least, least + 1, 1<<60 + 1, 1<<60 + 2, 1 << 61, 1 << 62, most}
	badRates := []int{-1, -2, -10000, math.MinInt, math.MinInt + 1, 10001, 10002, 20000, 1 << 16, 1<<31 - 1, math.MaxInt, math.MaxInt - 1}
	for _, n := range badAmounts {
		for _, bps := range append(rates(), badRates...) {
			refused(n, bps)
		}
	}
	for _, bps := range badRates {
		for _, n := range amounts() {
			refused(n, bps)
		}
	}
}

// P4.3: of two amounts together, neither how they are rounded nor which one is which brings more than both.
func TestTwoTogether(t *testing.T) {
	together := func(a, b int64, bps int) {
		t.Helper()
		upA, downA := parts(t, a, bps)
		upB, downB := parts(t, b, bps)
		up, down := parts(t, a+b, bps)
		for _, split := range []int64{downA + upB, upA + downB} {
			if split > up || down > split {
				t.Fatalf("%d of %d and %d: %d, not from %d to %d", bps, a, b, split, down, up)
			}
		}
	}
	for _, a := range amounts() {
		for _, bps := range rates() {
			together(a, api.MaxCash-a, bps)
			together(a, (api.MaxCash-a)/3, bps)
			for b := int64(0); b < 12 && b <= api.MaxCash-a; b++ {
				together(a, b, bps)
			}
		}
	}
	for a := range int64(60) {
		for b := range int64(60) {
			for bps := 0; bps <= whole; bps += 101 {
				together(a, b, bps)
				together(a*997, b*991, bps)
			}
		}
	}
}

// P4.3: no part is more than all, or less than nothing, and up is down, or one more.
func TestNoPartIsMore(t *testing.T) {
	for _, n := range amounts() {
		for _, bps := range rates() {
			up, down := parts(t, n, bps)
			if down < 0 || down > up || up > down+1 || up > n {
				t.Fatalf("%d of %d: %d, %d", bps, n, up, down)
			}
		}
	}
}
