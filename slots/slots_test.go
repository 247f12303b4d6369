package slots_test

import (
	"math"
	"math/rand"
	"slices"
	"sync"
	"testing"

	"agio/slots"
)

const (
	all  = 4096 // how many slots there are
	most = 64   // how many sites there are at most
)

// edges are all numbers at which something that the chapter names begins or ends, and numbers that come round to them, rising, each once.
func edges() []int {
	l := []int{math.MinInt, math.MinInt + 1, math.MaxInt - 1, math.MaxInt}
	for _, n := range []int{0, 3, 7, most, all - most, all, 1 << 8, 1 << 16, 1 << 31, 1 << 32, 1<<32 + all, 1 << 62} {
		for d := -2; d <= 2; d++ {
			l = append(l, n+d, -n+d)
		}
	}
	// Beside these ends a sum with a number of sites comes round.
	for d := range most + 2 {
		l = append(l, math.MaxInt-d, math.MinInt+d)
	}
	slices.Sort(l)
	return slices.Compact(l)
}

// owner is P9.1's site of a slot, as the chapter's words say it.
func owner(slot, n int) int {
	if slot < 0 || slot > all-1 || n < 1 || n > most {
		return -1
	}
	return slot % n
}

// own is P9.1's list, as the chapter's words say it: all slots are gone through.
func own(site, from, to, n int) []int {
	var l []int
	for s := range all {
		if site >= 0 && owner(s, n) == site && s >= from && s < to {
			l = append(l, s)
		}
	}
	return l
}

// next is P9.1's slot, as the chapter's words say it.
func next(site, from, n int) int {
	for s := range all {
		if site >= 0 && owner(s, n) == site && s >= from {
			return s
		}
	}
	return -1
}

// holds tells whether Own and Count tell a list.
func holds(t *testing.T, site, from, to, n int, want []int) {
	t.Helper()
	if l := slots.Own(site, from, to, n); !slices.Equal(l, want) {
		t.Fatalf("Own(%d, %d, %d, %d): %v, not %v", site, from, to, n, l, want)
	}
	if c := slots.Count(site, from, to, n); c != len(want) {
		t.Fatalf("Count(%d, %d, %d, %d): %d, not %d", site, from, to, n, c, len(want))
	}
}

// The chapter's examples, and the document's.
func TestExamples(t *testing.T) {
	if s := slots.Owner(7, 3); s != 1 {
		t.Errorf("Owner(7, 3): %d", s)
	}
	if s := slots.Next(1, 5, 3); s != 7 {
		t.Errorf("Next(1, 5, 3): %d", s)
	}
	holds(t, 0, 1, 8, 3, []int{3, 6})
}

// P9.1: at each end that the chapter names, and beyond it.
func TestOwner(t *testing.T) {
	for _, c := range []struct{ slot, n, want int }{
		{0, 1, 0}, {1, 1, 0}, {4095, 1, 0},
		{0, 3, 0}, {1, 3, 1}, {2, 3, 2}, {3, 3, 0}, {4095, 3, 0}, {4094, 3, 2},
		{6, 7, 6}, {7, 7, 0}, {4095, 7, 0},
		{63, 64, 63}, {64, 64, 0}, {4095, 64, 63},
		{4096, 3, -1}, {4097, 3, -1}, {-1, 3, -1}, {-3, 3, -1}, {math.MaxInt, 3, -1}, {math.MinInt, 3, -1},
		{1 << 32, 3, -1}, {1<<32 + 7, 3, -1},
		{7, 0, -1}, {7, -1, -1}, {7, -3, -1}, {7, 65, -1}, {7, 66, -1}, {7, 4096, -1},
		{7, math.MaxInt, -1}, {7, math.MinInt, -1}, {7, 1<<32 + 3, -1},
		{-1, 0, -1}, {4096, 65, -1}, {math.MinInt, -1, -1},
	} {
		if s := slots.Owner(c.slot, c.n); s != c.want {
			t.Errorf("Owner(%d, %d): %d, not %d", c.slot, c.n, s, c.want)
		}
	}
}

// P9.1: each slot and each edge, of as many sites as may be and as each edge.
func TestOwnerOfAll(t *testing.T) {
	numbers := edges()
	for n := range most + 2 {
		numbers = append(numbers, n)
	}
	for _, n := range numbers {
		for _, slot := range edges() {
			if s := slots.Owner(slot, n); s != owner(slot, n) {
				t.Fatalf("Owner(%d, %d): %d", slot, n, s)
			}
		}
		for slot := range all {
			if s := slots.Owner(slot, n); s != owner(slot, n) {
				t.Fatalf("Owner(%d, %d): %d", slot, n, s)
			}
		}
	}
}

// P9.1: at each end that the chapter names, and beyond it.
func TestNext(t *testing.T) {
	for _, c := range []struct{ site, from, n, want int }{
		{0, 0, 1, 0}, {0, 5, 1, 5}, {0, 4095, 1, 4095}, {0, 4096, 1, -1},
		{0, 0, 3, 0}, {1, 0, 3, 1}, {2, 0, 3, 2}, {1, 1, 3, 1}, {1, 2, 3, 4}, {0, 1, 3, 3}, {2, 3, 3, 5},
		{0, 4095, 3, 4095}, {2, 4095, 3, -1}, {2, 4094, 3, 4094}, {1, 4093, 3, 4093}, {1, 4094, 3, -1},
		{6, 0, 7, 6}, {6, 4095, 7, -1}, {6, 4094, 7, 4094}, {6, 4093, 7, 4094}, {0, 4090, 7, 4095},
		{63, 0, 64, 63}, {63, 64, 64, 127}, {63, 4033, 64, 4095}, {63, 4095, 64, 4095}, {0, 4033, 64, -1}, {0, 4032, 64, 4032},
		// from is no slot
		{1, -1, 3, 1}, {2, -2, 3, 2}, {0, -100, 3, 0}, {2, math.MinInt, 3, 2}, {63, math.MinInt, 64, 63}, {63, math.MinInt + 63, 64, 63},
		{0, 4096, 3, -1}, {0, math.MaxInt, 3, -1}, {1, math.MaxInt, 3, -1}, {2, math.MaxInt - 1, 3, -1}, {0, 1 << 32, 3, -1},
		// the site is none
		{3, 0, 3, -1}, {4, 0, 3, -1}, {-1, 0, 3, -1}, {-3, 0, 3, -1}, {64, 0, 64, -1}, {1, 0, 1, -1}, {math.MaxInt, 0, 3, -1}, {math.MinInt, 0, 3, -1},
		// there are not so many sites
		{0, 0, 0, -1}, {0, 0, -1, -1}, {-1, 0, 0, -1}, {-1, 0, -1, -1}, {0, 0, 65, -1}, {64, 0, 65, -1}, {0, 0, math.MaxInt, -1}, {0, 0, math.MinInt, -1},
		{1, 1, 1<<32 + 3, -1}, {-1, -1, -3, -1}, {math.MinInt, math.MinInt, math.MinInt, -1}, {math.MaxInt, math.MaxInt, math.MaxInt, -1},
	} {
		if s := slots.Next(c.site, c.from, c.n); s != c.want {
			t.Errorf("Next(%d, %d, %d): %d, not %d", c.site, c.from, c.n, s, c.want)
		}
	}
}

// P9.1: from each slot on, of each site, of as many of them as may be; from behind the last slot down to the first, the next one is known.
func TestNextOfAll(t *testing.T) {
	for n := 1; n <= most; n++ {
		for site := range n {
			want := -1
			for from := all + 2; from >= -2; from-- {
				if owner(from, n) == site {
					want = from
				}
				if s := slots.Next(site, from, n); s != want {
					t.Fatalf("Next(%d, %d, %d): %d, not %d", site, from, n, s, want)
				}
			}
		}
	}
}

// P9.1: of a site of each edge, from each edge on, of as many sites as each edge.
func TestNextAtEdges(t *testing.T) {
	for _, n := range []int{math.MinInt, -1, 0, 1, 2, 3, 7, most - 1, most, most + 1, all, 1 << 32, math.MaxInt} {
		for _, site := range []int{math.MinInt, -most, -1, 0, 1, 2, 3, 6, 7, most - 1, most, most + 1, math.MaxInt} {
			for _, from := range edges() {
				if s, want := slots.Next(site, from, n), next(site, from, n); s != want {
					t.Fatalf("Next(%d, %d, %d): %d, not %d", site, from, n, s, want)
				}
			}
		}
	}
}

// P9.1: lists that are written out.
func TestOwn(t *testing.T) {
	for _, c := range []struct {
		site, from, to, n int
		want              []int
	}{
		{0, 0, 4, 1, []int{0, 1, 2, 3}},
		{0, 3, 4, 1, []int{3}},
		{0, 0, 7, 3, []int{0, 3, 6}},
		{0, 0, 6, 3, []int{0, 3}},
		{1, 1, 8, 3, []int{1, 4, 7}},
		{1, 2, 7, 3, []int{4}},
		{1, 4, 5, 3, []int{4}},
		{1, 5, 7, 3, nil},
		{2, 4090, 4096, 3, []int{4091, 4094}},
		{0, 4090, 4096, 3, []int{4092, 4095}},
		{0, 4090, 4095, 3, []int{4092}},
		{0, 4095, 4096, 3, []int{4095}},
		{63, 0, 200, 64, []int{63, 127, 191}},
		{63, 4000, math.MaxInt, 64, []int{4031, 4095}},
		// from and to are no slots
		{6, -5, 14, 7, []int{6, 13}},
		{6, math.MinInt, 14, 7, []int{6, 13}},
		{2, 4090, 4097, 3, []int{4091, 4094}},
		{2, 4090, 9999, 3, []int{4091, 4094}},
		{2, 4090, math.MaxInt, 3, []int{4091, 4094}},
		{0, 4096, 5000, 3, nil},
		{0, math.MaxInt - 1, math.MaxInt, 3, nil},
		{0, -10, -1, 3, nil},
		{0, -10, 0, 3, nil},
		{0, -10, 1, 3, []int{0}},
		{0, math.MinInt, math.MinInt, 3, nil},
		{0, math.MinInt, math.MinInt + 70, 3, nil},
		// to is not above from
		{0, 3, 3, 3, nil},
		{0, 6, 3, 3, nil},
		{0, 8, 1, 3, nil},
		{1, math.MaxInt, math.MinInt, 3, nil},
		// there is no such site
		{3, 0, 4096, 3, nil},
		{-1, 0, 4096, 3, nil},
		{-3, 0, 4096, 3, nil},
		{64, 0, 4096, 64, nil},
		{0, 0, 4096, 0, nil},
		{-1, 0, 4096, 0, nil},
		{-1, 0, 4096, -1, nil},
		{0, 0, 4096, -3, nil},
		{0, 0, 4096, 65, nil},
		{64, 0, 4096, 65, nil},
		{-1, 0, 4096, 65, nil},
		{0, 0, 4096, math.MaxInt, nil},
		{math.MinInt, math.MinInt, math.MaxInt, math.MinInt, nil},
		{math.MaxInt, math.MinInt, math.MaxInt, math.MaxInt, nil},
		{1, 0, 4096, 1<<32 + 3, nil},
	} {
		holds(t, c.site, c.from, c.to, c.n, c.want)
	}
}

// P9.1: each two ends among the first slots and around them, of a few sites.
func TestOwnOfFew(t *testing.T) {
	for n := -1; n <= 9; n++ {
		for site := -2; site <= n+1; site++ {
			whole := own(site, -3, 25, n)
			for from := -3; from <= 25; from++ {
				for to := -3; to <= 25; to++ {
					want := slices.DeleteFunc(slices.Clone(whole), func(s int) bool { return s < from || s >= to })
					holds(t, site, from, to, n, want)
				}
			}
		}
	}
}

// P9.1: all of a site, of as many sites as may be, and one at most more.
func TestOwnOfAll(t *testing.T) {
	for n := range most + 2 {
		for site := -1; site <= n; site++ {
			holds(t, site, 0, all, n, own(site, 0, all, n))
			holds(t, site, math.MinInt, math.MaxInt, n, own(site, 0, all, n))
		}
	}
}

// P9.1: from each edge on, up to each edge.
func TestOwnAtEdges(t *testing.T) {
	for _, n := range []int{3, 7, most} {
		for _, site := range []int{0, n / 2, n - 1} {
			whole := own(site, 0, all, n)
			for _, from := range edges() {
				for _, to := range edges() {
					lo, _ := slices.BinarySearch(whole, from)
					hi, _ := slices.BinarySearch(whole, to)
					holds(t, site, from, to, n, whole[lo:max(lo, hi)])
				}
			}
		}
	}
}

// P9.1: by chance, also of sites and of numbers of them that are none.
func TestOwnByChance(t *testing.T) {
	rnd := rand.New(rand.NewSource(1))
	for range 5000 {
		n := rnd.Intn(most+4) - 1
		site, from, to := rnd.Intn(n+4)-1, rnd.Intn(all+200)-100, rnd.Intn(all+200)-100
		want := own(site, from, to, n)
		holds(t, site, from, to, n, want)
		first := next(site, from, n)
		if s := slots.Next(site, from, n); s != first {
			t.Fatalf("Next(%d, %d, %d): %d, not %d", site, from, n, s, first)
		}
	}
}

// P9.2: each slot is of just one site, and the slots of all sites together are all.
func TestEachOfOne(t *testing.T) {
	for n := 1; n <= most; n++ {
		var times [all]int
		count := 0
		for site := range n {
			for _, s := range slots.Own(site, 0, all, n) {
				times[s]++
				if slots.Owner(s, n) != site {
					t.Fatalf("%d sites: slot %d is of site %d, and of %d", n, s, site, slots.Owner(s, n))
				}
			}
			count += slots.Count(site, 0, all, n)
		}
		if i := slices.IndexFunc(times[:], func(c int) bool { return c != 1 }); i >= 0 {
			t.Fatalf("%d sites: slot %d is of %d of them", n, i, times[i])
		}
		if count != all {
			t.Fatalf("%d sites have %d slots", n, count)
		}
	}
}

// P9.2: two slots of a site, one next to the other, lie n apart; from one on the next one is itself, and from behind it the other one.
func TestApart(t *testing.T) {
	for n := 1; n <= most; n++ {
		for site := range n {
			l := slots.Own(site, 0, all, n)
			if len(l) == 0 || l[0] != site || slots.Next(site, l[len(l)-1]+1, n) != -1 {
				t.Fatalf("site %d of %d: %v", site, n, l)
			}
			for i, s := range l[1:] {
				if s-l[i] != n || slots.Next(site, l[i]+1, n) != s || slots.Next(site, s, n) != s {
					t.Fatalf("site %d of %d: %d next to %d", site, n, s, l[i])
				}
			}
		}
	}
}

// P9.2: a span that is cut has the slots of both its parts, wherever it is cut.
func TestCut(t *testing.T) {
	rnd := rand.New(rand.NewSource(2))
	for range 2000 {
		n := 1 + rnd.Intn(most)
		site := rnd.Intn(n)
		cuts := []int{rnd.Intn(all + 1), rnd.Intn(all + 1), rnd.Intn(all + 1)}
		slices.Sort(cuts)
		a, b := slots.Own(site, cuts[0], cuts[1], n), slots.Own(site, cuts[1], cuts[2], n)
		holds(t, site, cuts[0], cuts[2], n, slices.Concat(a, b))
	}
}

// R3, R4: what is told is the caller's own, and nothing is kept from call to call.
func TestTold(t *testing.T) {
	l := slots.Own(1, 0, 30, 3)
	want := slices.Clone(l)
	other := slots.Own(1, 0, 30, 3)
	for i := range l[:cap(l)] {
		l[:cap(l)][i] = -1
	}
	if !slices.Equal(other, want) {
		t.Errorf("another answer is changed to %v", other)
	}
	holds(t, 1, 0, 30, 3, want)
}

// R4: calls beside each other don't touch.
func TestBeside(t *testing.T) {
	var done sync.WaitGroup
	for i := range int64(8) {
		done.Go(func() {
			rnd := rand.New(rand.NewSource(i))
			for range 200 {
				n := 1 + rnd.Intn(most)
				site, from, to := rnd.Intn(n), rnd.Intn(all), rnd.Intn(all)
				want := own(site, from, to, n)
				if !slices.Equal(slots.Own(site, from, to, n), want) || slots.Count(site, from, to, n) != len(want) || slots.Next(site, from, n) != next(site, from, n) || slots.Owner(from, n) != from%n {
					t.Error("another answer beside others")
				}
			}
		})
	}
	done.Wait()
}
