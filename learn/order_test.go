package learn_test

import (
	"math/rand"
	"slices"
	"strconv"
	"strings"
	"testing"

	"agio/api"
	"agio/learn"
)

// decision is a slot's value, as it is learned.
type decision struct {
	slot int
	val  string
}

// learned is what is taken, one behind the other, of decisions in their order; behind each of them, of which a function tells so, and at last.
func learned(t *testing.T, l []decision, when func(i int) bool) []string {
	t.Helper()
	var all []string
	one := learn.New()
	for i, d := range l {
		if e := one.Put(d.slot, []byte(d.val)); e != api.OK {
			t.Fatalf("Put(%d, %q): %v", d.slot, d.val, e)
		}
		if when(i) {
			all = append(all, texts(one.Take())...)
		}
	}
	all = append(all, texts(one.Take())...)
	if len(all) != one.Taken() || len(all) != one.Frontier() {
		t.Fatalf("%d were taken: Taken %d, Frontier %d", len(all), one.Taken(), one.Frontier())
	}
	return all
}

// values are those of the slots from 0 on, up to the first that isn't decided.
func values(l []decision) []string {
	var all []string
	for {
		i := slices.IndexFunc(l, func(d decision) bool { return d.slot == len(all) })
		if i < 0 {
			return all
		}
		all = append(all, l[i].val)
	}
}

// orders calls do with each order of a list.
func orders(l []decision, do func([]decision)) {
	var walk func(ahead, left []decision)
	walk = func(ahead, left []decision) {
		if len(left) == 0 {
			do(ahead)
		}
		for i := range left {
			walk(append(slices.Clip(ahead), left[i]), append(slices.Clone(left[:i]), left[i+1:]...))
		}
	}
	walk(nil, l)
}

// P12.3: all orders in which up to five of six slots are decided, taken behind any of them.
func TestAllOrders(t *testing.T) {
	for set := range 1 << 6 {
		var l []decision
		for s := range 6 {
			if set>>s&1 == 1 {
				// Some values are alike: each of them is taken for itself.
				l = append(l, decision{s, []string{"a", "", "b", "b", "", "c"}[s]})
			}
		}
		if len(l) > 5 {
			continue
		}
		want := values(l)
		orders(l, func(l []decision) {
			for when := range 1 << len(l) {
				if got := learned(t, l, func(i int) bool { return when>>i&1 == 1 }); !slices.Equal(got, want) {
					t.Fatalf("%v, taken at %b: %q, not %q", l, when, got, want)
				}
			}
		})
	}
}

// P12.3: all slots, in orders by chance, some of them more than once.
func TestAllSlotsByChance(t *testing.T) {
	rnd := rand.New(rand.NewSource(2))
	var want []string
	for s := range api.MaxSlots {
		want = append(want, strings.Repeat(strconv.Itoa(s), rnd.Intn(2)))
	}
	for range 20 {
		var l []decision
		for _, s := range rnd.Perm(api.MaxSlots) {
			for range 1 + rnd.Intn(2) {
				l = append(l, decision{s, want[s]})
			}
		}
		often := 1 + rnd.Intn(300)
		if got := learned(t, l, func(int) bool { return rnd.Intn(often) == 0 }); !slices.Equal(got, want) {
			t.Fatalf("of all slots %d were taken", len(got))
		}
	}
}

// P12.3: two that learned of some of the same decisions, each in an order of its own, have taken beginnings of one list at each of their steps.
func TestBeginningsOfOneList(t *testing.T) {
	rnd := rand.New(rand.NewSource(3))
	for range 300 {
		n := 1 + rnd.Intn(60)
		var list []string
		for s := range n {
			list = append(list, strconv.Itoa(s*rnd.Intn(3)))
		}
		two := []*learn.Learn{learn.New(), learn.New()}
		took := make([][]string, 2)
		orders := [][]int{rnd.Perm(n), rnd.Perm(n)}
		for i := range n - rnd.Intn(n) {
			for who, one := range two {
				one.Put(orders[who][i], []byte(list[orders[who][i]]))
				// What is decided otherwise elsewhere isn't taken for it.
				one.Put(orders[who][i], []byte("x"))
				took[who] = append(took[who], texts(one.Take())...)
			}
			a, b := took[0], took[1]
			both := min(len(a), len(b))
			if !slices.Equal(a[:both], b[:both]) || !slices.Equal(a, list[:len(a)]) || !slices.Equal(b, list[:len(b)]) {
				t.Fatalf("taken: %q, %q of %q", a, b, list)
			}
		}
	}
}
