package ballot_test

import (
	"math"
	"math/big"
	"math/bits"
	"math/rand"
	"slices"
	"sync"
	"testing"

	"agio/api"
	"agio/ballot"
)

const top = 1 << 40

func of(round, site int) api.Ballot { return api.Ballot{Round: round, Site: site} }

// edges are all numbers at which something that the chapter names begins or ends, and numbers that come round to them, rising, each once.
func edges() []int {
	l := []int{math.MinInt, math.MinInt + 1, math.MaxInt - 1, math.MaxInt}
	for _, n := range []int{0, 3, 6, 1 << 8, 1 << 16, 1 << 31, 1 << 32, top, 1 << 62} {
		for d := -2; d <= 2; d++ {
			l = append(l, n+d, -n+d)
		}
	}
	slices.Sort(l)
	return slices.Compact(l)
}

// ballots are those of all edges, the lesser one first.
func ballots() []api.Ballot {
	var l []api.Ballot
	for _, round := range edges() {
		for _, site := range edges() {
			l = append(l, of(round, site))
		}
	}
	return l
}

// sign is -1, 0, 1, as n is below 0, 0, above 0.
func sign(n int) int {
	switch {
	case n < 0:
		return -1
	case n > 0:
		return 1
	}
	return 0
}

// The chapter's examples.
func TestExamples(t *testing.T) {
	if b := ballot.Next(of(2, 1), 0); b != of(3, 0) {
		t.Errorf("Next({2, 1}, 0): %v", b)
	}
	if n := ballot.Major(5); n != 3 {
		t.Errorf("Major(5): %d", n)
	}
	if !ballot.Most([]int{0, 2, 2, 7, 4}, 5) {
		t.Error("Most([0, 2, 2, 7, 4], 5): false")
	}
	if !ballot.Most([]int{0, 2, 4}, 5) {
		t.Error("Most([0, 2, 4], 5): false")
	}
}

// P8.1: the round is ahead of the site, whichever of both is greater.
func TestCompare(t *testing.T) {
	for _, c := range []struct {
		a, b api.Ballot
		want int
	}{
		{of(0, 0), of(0, 0), 0},
		{of(5, 3), of(5, 3), 0},
		{of(1, 2), of(2, 0), -1},
		{of(2, 0), of(1, 2), 1},
		{of(1, 0), of(2, 2), -1},
		{of(1, 1), of(1, 2), -1},
		{of(1, 2), of(1, 1), 1},
		{of(0, 6), of(1, 0), -1},
		{of(-1, 6), of(0, 0), -1},
		{of(1, -1), of(1, 0), -1},
		{of(math.MinInt, 0), of(math.MaxInt, 0), -1},
		{of(math.MaxInt, 0), of(math.MinInt, 0), 1},
		{of(0, math.MinInt), of(0, math.MaxInt), -1},
		{of(0, math.MaxInt), of(0, math.MinInt), 1},
		{of(math.MinInt, math.MaxInt), of(math.MaxInt, math.MinInt), -1},
	} {
		if n := ballot.Compare(c.a, c.b); n != c.want {
			t.Errorf("Compare(%v, %v): %d, not %d", c.a, c.b, n, c.want)
		}
	}
}

// P8.1, P8.3: of each two ballots of all edges, as they stand in their order.
func TestOrder(t *testing.T) {
	l := ballots()
	for i, a := range l {
		for j, b := range l {
			if n := ballot.Compare(a, b); n != sign(i-j) {
				t.Fatalf("Compare(%v, %v): %d, not %d", a, b, n, sign(i-j))
			}
		}
	}
}

// P8.3: ballots in whatever order are brought into the one.
func TestSorted(t *testing.T) {
	want := ballots()
	for seed := range int64(10) {
		l := slices.Clone(want)
		rand.New(rand.NewSource(seed)).Shuffle(len(l), func(i, j int) { l[i], l[j] = l[j], l[i] })
		slices.SortFunc(l, ballot.Compare)
		if !slices.Equal(l, want) {
			t.Fatalf("seed %d: sorted in another order", seed)
		}
	}
}

// P8.1: at each end that the chapter names, and beyond it.
func TestMay(t *testing.T) {
	for _, c := range []struct {
		b    api.Ballot
		n    int
		want bool
	}{
		{of(0, 0), 1, true},
		{of(0, 0), 3, true},
		{of(0, 2), 3, true},
		{of(0, 6), 7, true},
		{of(top, 6), 7, true},
		{of(top-1, 0), 7, true},
		{of(top+1, 0), 7, false},
		{of(-1, 0), 7, false},
		{of(math.MaxInt, 0), 7, false},
		{of(math.MinInt, 0), 7, false},
		{of(1, 3), 3, false},
		{of(1, 7), 7, false},
		{of(1, 1), 1, false},
		{of(1, -1), 3, false},
		{of(1, math.MinInt), 3, false},
		{of(1, math.MaxInt), 3, false},
		{of(1, 0), 0, false},
		{of(1, 0), -1, false},
		{of(1, -1), 0, false},
		{of(1, -2), -1, false},
		{of(1, 0), math.MinInt, false},
		{of(1, math.MinInt), math.MinInt, false},
		{of(1, 100), 101, true},
		{of(1, math.MaxInt-1), math.MaxInt, true},
		{of(1, math.MaxInt), math.MaxInt, false},
	} {
		if is := ballot.May(c.b, c.n); is != c.want {
			t.Errorf("May(%v, %d): %t", c.b, c.n, is)
		}
	}
}

// P8.1: a ballot of each edge, of as many sites as each edge.
func TestMayAtEdges(t *testing.T) {
	for _, n := range edges() {
		for _, b := range ballots() {
			want := 0 <= b.Round && b.Round <= top && 0 <= b.Site && b.Site < n
			if is := ballot.May(b, n); is != want {
				t.Fatalf("May(%v, %d): %t", b, n, is)
			}
		}
	}
}

// next is P8.1's round, as its words say it, of the library's whole numbers, which don't run over.
func next(round int) int {
	n := new(big.Int).Add(big.NewInt(int64(round)), big.NewInt(1))
	switch {
	case round < 0:
		return 1
	case n.Cmp(big.NewInt(top)) > 0:
		return top
	}
	return int(n.Int64())
}

// P8.1: one round more, from the first one on, and the last one at most.
func TestNext(t *testing.T) {
	for _, c := range []struct{ round, want int }{
		{0, 1},
		{1, 2},
		{2, 3},
		{1000, 1001},
		{-1, 1},
		{-2, 1},
		{-5, 1},
		{math.MinInt, 1},
		{math.MinInt + 1, 1},
		{top - 2, top - 1},
		{top - 1, top},
		{top, top},
		{top + 1, top},
		{math.MaxInt - 1, top},
		{math.MaxInt, top},
	} {
		for _, site := range []int{0, 2, 6} {
			if b := ballot.Next(of(c.round, 1), site); b != of(c.want, site) {
				t.Errorf("Next({%d, 1}, %d): %v, not %v", c.round, site, b, of(c.want, site))
			}
		}
	}
}

// P8.1: of a ballot of each edge, whosever it was, and of a site of each edge, also of one that is none.
func TestNextAtEdges(t *testing.T) {
	for _, b := range ballots() {
		for _, site := range edges() {
			if n := ballot.Next(b, site); n != of(next(b.Round), site) {
				t.Fatalf("Next(%v, %d): %v", b, site, n)
			}
		}
	}
}

// P8.1, P8.3: Next is greater than what it is next to, up to the last round, and may be, of so many sites that its own is one.
func TestNextIsGreater(t *testing.T) {
	rnd := rand.New(rand.NewSource(1))
	l := ballots()
	for range 2000 {
		l = append(l, of(rnd.Intn(top), rnd.Intn(api.MaxSites)))
	}
	for _, b := range l {
		if b.Round >= top {
			continue
		}
		for site := range api.MaxSites {
			n := ballot.Next(b, site)
			if ballot.Compare(b, n) != -1 || ballot.Compare(n, b) != 1 {
				t.Fatalf("Next(%v, %d): %v isn't greater", b, site, n)
			}
			if !ballot.May(n, api.MaxSites) || ballot.May(n, site) {
				t.Fatalf("Next(%v, %d): %v may not be of %d sites, or may of %d", b, site, n, api.MaxSites, site)
			}
		}
	}
}

// P8.3: of unlike sites Next is unlike, whatever it is next to.
func TestNextOfUnlikeSites(t *testing.T) {
	l := []int{math.MinInt, -1, 0, 1, 2, 6, 7, top, math.MaxInt}
	for _, a := range l {
		for _, b := range l {
			for _, s := range l {
				for _, other := range l {
					if s != other && ballot.Next(of(a, 1), s) == ballot.Next(of(b, 2), other) {
						t.Fatalf("Next({%d, 1}, %d) is Next({%d, 2}, %d)", a, s, b, other)
					}
				}
			}
		}
	}
}

// P8.3: next to each other, again and again, they rise, each at its site.
func TestNextAgainAndAgain(t *testing.T) {
	b := api.Ballot{}
	for i := range 1000 {
		n := ballot.Next(b, i%7)
		if n != of(i+1, i%7) || ballot.Compare(b, n) != -1 {
			t.Fatalf("Next(%v, %d): %v", b, i%7, n)
		}
		b = n
	}
}

// P8.2: one more than half, rounded down; 0, where there are no sites.
func TestMajor(t *testing.T) {
	for _, c := range []struct{ n, want int }{
		{1, 1}, {2, 2}, {3, 2}, {4, 3}, {5, 3}, {6, 4}, {7, 4}, {8, 5}, {64, 33}, {65, 33},
		{0, 0}, {-1, 0}, {-2, 0}, {-3, 0}, {-7, 0}, {math.MinInt, 0}, {math.MinInt + 1, 0},
		{math.MaxInt, 1 << 62}, {math.MaxInt - 1, 1 << 62}, {1 << 62, 1<<61 + 1},
	} {
		if n := ballot.Major(c.n); n != c.want {
			t.Errorf("Major(%d): %d, not %d", c.n, n, c.want)
		}
	}
}

// P8.2: the least number that is more than what is left, of many numbers of sites.
func TestMajorIsMost(t *testing.T) {
	for n := 1; n <= 20000; n++ {
		m := ballot.Major(n)
		if m <= n-m || m-1 > n-(m-1) {
			t.Fatalf("Major(%d): %d", n, m)
		}
	}
}

// P8.2: lists that are written out.
func TestMost(t *testing.T) {
	for _, c := range []struct {
		sites []int
		n     int
		want  bool
	}{
		{[]int{0}, 1, true},
		{[]int{0}, 2, false},
		{[]int{0, 1}, 2, true},
		{[]int{0, 1}, 3, true},
		{[]int{2, 0}, 3, true},
		{[]int{1, 2}, 3, true},
		{[]int{0, 1}, 4, false},
		{[]int{0, 1, 3}, 4, true},
		{[]int{0, 4}, 5, false},
		{[]int{4, 2, 0}, 5, true},
		{[]int{0, 1, 2, 3, 4, 5, 6}, 7, true},
		{[]int{3, 4, 5, 6}, 7, true},
		{[]int{4, 5, 6}, 7, false},
		// like ones count once
		{[]int{0, 0}, 3, false},
		{[]int{0, 2, 2}, 5, false},
		{[]int{0, 2, 2, 0, 2, 0, 2, 0}, 5, false},
		{[]int{2, 2, 2, 2, 1}, 3, true},
		// numbers that are none don't count
		{[]int{1, 3}, 3, false},
		{[]int{3, 4}, 3, false},
		{[]int{-1, 0}, 3, false},
		{[]int{-1, -2, -3, 3, 4, 5, 6}, 3, false},
		{[]int{-1, 2, 3, 0}, 3, true},
		{[]int{1, 1}, 1, false},
		{[]int{1, 0}, 1, true},
		{[]int{math.MinInt, math.MaxInt, 0}, 3, false},
		{[]int{1 << 32, 1<<32 + 1, 1<<32 + 2, 256, 257}, 3, false},
		// none are too few of some sites, and nothing is most of no sites
		{nil, 1, false},
		{nil, 3, false},
		{nil, math.MaxInt, false},
		{nil, 0, false},
		{nil, -1, false},
		{[]int{0}, 0, false},
		{[]int{0, -1, 1}, 0, false},
		{[]int{0, 1, 2}, -1, false},
		{[]int{-1, -2, -3, -4}, -3, false},
		{[]int{0, 1, 2}, -3, false},
		{[]int{0, 1, -1, math.MinInt, math.MaxInt}, math.MinInt, false},
		{[]int{0, 1, 2}, math.MaxInt, false},
		{[]int{0, math.MaxInt - 1}, math.MaxInt - 1, false},
	} {
		if is := ballot.Most(c.sites, c.n); is != c.want {
			t.Errorf("Most(%v, %d): %t", c.sites, c.n, is)
		}
	}
}

// most is P8.2, as its words say it, by a word of bits, of 64 sites at most.
func most(sites []int, n int) bool {
	var word uint64
	for _, s := range sites {
		if 0 <= s && s <= n-1 {
			word |= 1 << s
		}
	}
	return n >= 1 && bits.OnesCount64(word) >= n/2+1
}

// P8.2: all lists of up to five numbers about those of up to six sites.
func TestMostOfAllLists(t *testing.T) {
	for n := -2; n <= 6; n++ {
		lists(nil, -1, 6, 5, func(sites []int) {
			if is := ballot.Most(sites, n); is != most(sites, n) {
				t.Fatalf("Most(%v, %d): %t", sites, n, is)
			}
		})
	}
}

// lists calls with all lists that go on behind l, with so many more numbers at most, each from least to greatest.
func lists(l []int, least, greatest, more int, call func([]int)) {
	call(l)
	if more == 0 {
		return
	}
	for s := least; s <= greatest; s++ {
		lists(append(l, s), least, greatest, more-1, call)
	}
}

// P8.2: lists by chance, of up to 64 sites, some of them longer than there are sites.
func TestMostByChance(t *testing.T) {
	rnd := rand.New(rand.NewSource(2))
	is, isn := 0, 0
	for range 20000 {
		n := 1 + rnd.Intn(64)
		sites := make([]int, rnd.Intn(2*n+4))
		for i := range sites {
			sites[i] = rnd.Intn(n+4) - 2
		}
		want := most(sites, n)
		if ballot.Most(sites, n) != want {
			t.Fatalf("Most(%v, %d): %t", sites, n, !want)
		}
		if want {
			is++
		} else {
			isn++
		}
	}
	if is < 1000 || isn < 1000 {
		t.Errorf("%d are most, %d aren't: too few of one to tell", is, isn)
	}
}

// sitesOf is the sites whose bits word has.
func sitesOf(word, n int) []int {
	var l []int
	for s := range n {
		if word>>s&1 == 1 {
			l = append(l, s)
		}
	}
	return l
}

// P8.3: each two lists that are most of the sites have one in common; of a list and of the sites that it leaves out one at most is most of them, and of odd numbers of sites just one.
func TestInCommon(t *testing.T) {
	for n := 1; n <= 9; n++ {
		for a := range 1 << n {
			isA, left := ballot.Most(sitesOf(a, n), n), ballot.Most(sitesOf(1<<n-1-a, n), n)
			if isA && left || n%2 == 1 && !isA && !left {
				t.Fatalf("%d sites: is %v most? %t; and what it leaves? %t", n, sitesOf(a, n), isA, left)
			}
			for b := range 1 << n {
				if isA && a&b == 0 && ballot.Most(sitesOf(b, n), n) {
					t.Fatalf("%d sites: %v and %v have none in common", n, sitesOf(a, n), sitesOf(b, n))
				}
			}
		}
	}
}

// R2: nil is empty.
func TestNilIsEmpty(t *testing.T) {
	for _, n := range edges() {
		if ballot.Most(nil, n) || ballot.Most([]int{}, n) {
			t.Errorf("nothing is most of %d sites", n)
		}
	}
}

// R3: what is handed in stays, also what stands behind it.
func TestHandedInStays(t *testing.T) {
	room := []int{4, 2, 2, 7, -1, 0, 3, 3, 1, 9, 8}
	was := slices.Clone(room)
	for n := range 12 {
		ballot.Most(room[:6], n)
		ballot.Most(room, n)
	}
	if !slices.Equal(room, was) {
		t.Errorf("Most changed %v to %v", was, room)
	}
}

// R4: nothing is kept from call to call, and calls beside each other don't touch.
func TestNothingKept(t *testing.T) {
	if !ballot.Most([]int{0, 1}, 3) || ballot.Most([]int{2}, 3) || ballot.Most([]int{2}, 3) {
		t.Error("sites that were counted once are counted again")
	}
	var all sync.WaitGroup
	for i := range int64(8) {
		all.Go(func() {
			rnd := rand.New(rand.NewSource(i))
			for range 2000 {
				n, b := 1+rnd.Intn(7), of(rnd.Intn(9), rnd.Intn(7))
				sites := rnd.Perm(n)[:rnd.Intn(n+1)]
				if ballot.Most(sites, n) != most(sites, n) || ballot.Next(b, n) != of(b.Round+1, n) {
					t.Error("another answer beside others")
				}
			}
		})
	}
	all.Wait()
}

// P1: long lists, of many sites, and of few ones again and again.
func TestMany(t *testing.T) {
	const n = 1 << 19
	sites := make([]int, n)
	for i := range sites {
		sites[i] = n - 1 - i
	}
	if !ballot.Most(sites, n) || !ballot.Most(sites[:n/2+1], n) || ballot.Most(sites[:n/2], n) || ballot.Most(sites, math.MaxInt) {
		t.Error("most of many sites")
	}
	for i := range sites {
		sites[i] = i % 3
	}
	if ballot.Most(sites, 7) || !ballot.Most(sites, 5) {
		t.Error("few sites, again and again")
	}
}
