package proposer_test

import (
	"bytes"
	"math"
	"math/rand"
	"slices"
	"sync"
	"testing"

	"agio/api"
	"agio/proposer"
)

const top = 1 << 40 // the last round

func of(round, site int) api.Ballot { return api.Ballot{Round: round, Site: site} }

// empty is a promise of a site that had accepted nothing; told one of a site that tells what it had accepted.
func empty(from int) proposer.Promise { return proposer.Promise{From: from} }

func told(from int, at api.Ballot, val string) proposer.Promise {
	return proposer.Promise{From: from, Some: true, At: at, Val: []byte(val)}
}

func vote(from int, b api.Ballot) proposer.Vote { return proposer.Vote{From: from, Bal: b} }

// ballots are those of all numbers at which something that the document names begins or ends, and of numbers beyond these.
func ballots() []api.Ballot {
	var l []api.Ballot
	for _, round := range []int{math.MinInt, -1, 0, 1, 2, top - 1, top, top + 1, math.MaxInt} {
		for _, site := range []int{math.MinInt, -1, 0, 1, 2, 3, 6, 7, math.MaxInt} {
			l = append(l, of(round, site))
		}
	}
	return l
}

// below is chapter 8's lesser one of two ballots, as its words say it.
func below(a, b api.Ballot) bool {
	return a.Round < b.Round || a.Round == b.Round && a.Site < b.Site
}

// most is chapter 8's most of the sites, as its words say it: of each number that is told it is looked whether it stands ahead already.
func most(from []int, n int) bool {
	unlike := 0
	for i, s := range from {
		if 0 <= s && s < n && !slices.Contains(from[:i], s) {
			unlike++
		}
	}
	return n >= 1 && unlike > n/2
}

// greatest is the place of the first ballot that none of a list is above; -1 without any.
func greatest(l []api.Ballot) int {
	return slices.IndexFunc(l, func(b api.Ballot) bool {
		return !slices.ContainsFunc(l, func(c api.Ballot) bool { return below(b, c) })
	})
}

// chosen is P11.1's answer, as the chapter's words say it.
func chosen(l []proposer.Promise, n int) (string, bool) {
	var from []int
	var at []api.Ballot
	var vals []string
	for _, p := range l {
		from = append(from, p.From)
		if p.Some && 0 <= p.From && p.From < n {
			at = append(at, p.At)
			vals = append(vals, string(p.Val))
		}
	}
	i := greatest(at)
	if !most(from, n) || i < 0 {
		return "", most(from, n)
	}
	return vals[i], true
}

// decided is P11.2's answer, as the chapter's words say it.
func decided(l []proposer.Vote, b api.Ballot, n int) bool {
	var from []int
	for _, v := range l {
		if v.Bal.Round == b.Round && v.Bal.Site == b.Site {
			from = append(from, v.From)
		}
	}
	return most(from, n)
}

// chooses fails unless Choose answers as the chapter's words say it.
func chooses(t *testing.T, l []proposer.Promise, n int) {
	t.Helper()
	want, wis := chosen(l, n)
	if val, is := proposer.Choose(l, n); is != wis || string(val) != want {
		t.Fatalf("Choose(%v, %d): %q, %t, not %q, %t", l, n, val, is, want, wis)
	}
}

// decides fails unless Decided and Greatest answer as the chapter's words say it.
func decides(t *testing.T, l []proposer.Vote, b api.Ballot, n int) {
	t.Helper()
	if is := proposer.Decided(l, b, n); is != decided(l, b, n) {
		t.Fatalf("Decided(%v, %v, %d): %t", l, b, n, is)
	}
	var all []api.Ballot
	for _, v := range l {
		all = append(all, v.Bal)
	}
	want := api.Ballot{}
	if i := greatest(all); i >= 0 {
		want = all[i]
	}
	if g, is := proposer.Greatest(l); is != (len(l) > 0) || g != want {
		t.Fatalf("Greatest(%v): %v, %t, not %v", l, g, is, want)
	}
}

// The chapter's examples.
func TestExamples(t *testing.T) {
	l := []proposer.Promise{empty(0), told(2, of(1, 1), "x")}
	if val, is := proposer.Choose(l, 3); !is || string(val) != "x" {
		t.Errorf("Choose of both: %q, %t", val, is)
	}
	for i := range l {
		if val, is := proposer.Choose(l[i:i+1], 3); is || len(val) != 0 {
			t.Errorf("Choose of %v alone: %q, %t", l[i], val, is)
		}
	}
}

// P11.1: answers that are written out.
func TestChoose(t *testing.T) {
	for _, c := range []struct {
		name string
		l    []proposer.Promise
		n    int
		want string
		is   bool
	}{
		{"none", nil, 3, "", false},
		{"none, of no sites", nil, 0, "", false},
		{"none, of fewer than no sites", nil, -1, "", false},
		{"of no sites", []proposer.Promise{told(0, of(1, 1), "x"), told(-1, of(1, 1), "x")}, 0, "", false},
		{"of fewer than no sites", []proposer.Promise{told(0, of(1, 1), "x"), told(-1, of(1, 1), "x")}, -3, "", false},
		{"one of one", []proposer.Promise{told(0, of(1, 1), "x")}, 1, "x", true},
		{"one of two", []proposer.Promise{told(0, of(1, 1), "x")}, 2, "", false},
		{"two of two", []proposer.Promise{told(0, of(1, 1), "x"), empty(1)}, 2, "x", true},
		{"two of three", []proposer.Promise{told(0, of(1, 1), "x"), empty(1)}, 3, "x", true},
		{"two of four", []proposer.Promise{told(0, of(1, 1), "x"), empty(1)}, 4, "", false},
		{"three of five", []proposer.Promise{empty(4), empty(2), told(0, of(0, 0), "x")}, 5, "x", true},
		{"three of six", []proposer.Promise{empty(4), empty(2), told(0, of(0, 0), "x")}, 6, "", false},
		{"four of seven", []proposer.Promise{empty(6), told(5, of(0, 0), "x"), empty(4), empty(3)}, 7, "x", true},
		{"three of seven", []proposer.Promise{empty(6), told(5, of(0, 0), "x"), empty(4)}, 7, "", false},
		{"one site twice", []proposer.Promise{told(0, of(1, 1), "x"), told(0, of(1, 1), "x")}, 3, "", false},
		{"with one that is no site", []proposer.Promise{told(0, of(1, 1), "x"), told(3, of(1, 1), "x")}, 3, "", false},
		{"with one below the sites", []proposer.Promise{told(0, of(1, 1), "x"), told(-1, of(1, 1), "x")}, 3, "", false},
		{"nothing accepted", []proposer.Promise{empty(0), empty(1)}, 3, "", true},
		{"an empty value accepted", []proposer.Promise{told(0, of(2, 0), ""), told(1, of(1, 1), "x")}, 3, "", true},
		{"at {0, 0}", []proposer.Promise{empty(0), told(1, of(0, 0), "x")}, 3, "x", true},
		// the greatest one
		{"the greater round first", []proposer.Promise{told(0, of(2, 0), "x"), told(1, of(1, 1), "y")}, 3, "x", true},
		{"the greater round last", []proposer.Promise{told(0, of(1, 1), "y"), told(1, of(2, 0), "x")}, 3, "x", true},
		{"the greater round between", []proposer.Promise{told(0, of(1, 1), "y"), told(1, of(2, 0), "x"), told(2, of(1, 2), "z")}, 3, "x", true},
		{"the greater site first", []proposer.Promise{told(0, of(2, 1), "x"), told(1, of(2, 0), "y")}, 3, "x", true},
		{"the greater site last", []proposer.Promise{told(0, of(2, 0), "y"), told(1, of(2, 1), "x")}, 3, "x", true},
		{"not the greatest From", []proposer.Promise{told(2, of(1, 0), "y"), told(0, of(1, 1), "x")}, 3, "x", true},
		{"the first of two", []proposer.Promise{told(1, of(1, 1), "x"), told(0, of(1, 1), "y")}, 3, "x", true},
		{"the first of two, behind a lesser one", []proposer.Promise{told(2, of(1, 0), "z"), told(1, of(1, 1), "x"), told(0, of(1, 1), "y")}, 3, "x", true},
		{"the first of one site's", []proposer.Promise{empty(0), told(1, of(1, 1), "x"), told(1, of(1, 1), "y")}, 3, "x", true},
		{"the greatest of one site's", []proposer.Promise{empty(0), told(1, of(1, 1), "y"), told(1, of(1, 2), "x"), empty(1)}, 3, "x", true},
		{"all below {0, 0}", []proposer.Promise{told(0, of(-2, 0), "y"), told(1, of(-1, -1), "x")}, 3, "x", true},
		{"the least there is", []proposer.Promise{empty(0), told(1, of(math.MinInt, math.MinInt), "x")}, 3, "x", true},
		{"rounds far apart", []proposer.Promise{told(0, of(math.MinInt, 0), "y"), told(1, of(math.MaxInt, 0), "x")}, 3, "x", true},
		// what is not accepted, or of no site, doesn't count
		{"not accepted, but with a value", []proposer.Promise{{From: 0, At: of(5, 0), Val: []byte("y")}, told(1, of(1, 1), "x")}, 3, "x", true},
		{"none accepted, but with values", []proposer.Promise{{From: 0, At: of(5, 0), Val: []byte("y")}, {From: 1, At: of(6, 0), Val: []byte("z")}}, 3, "", true},
		{"greater, of no site", []proposer.Promise{told(3, of(5, 0), "y"), empty(0), told(1, of(1, 1), "x")}, 3, "x", true},
		{"greater, of one below the sites", []proposer.Promise{told(-1, of(5, 0), "y"), empty(0), told(1, of(1, 1), "x")}, 3, "x", true},
		{"of no site alone", []proposer.Promise{empty(0), empty(1), told(3, of(5, 0), "y"), told(-1, of(5, 0), "y")}, 3, "", true},
	} {
		if val, is := proposer.Choose(c.l, c.n); is != c.is || string(val) != c.want {
			t.Errorf("%s: %q, %t, not %q, %t", c.name, val, is, c.want, c.is)
		}
	}
}

// P11.1: whatever the value is, it is told as it is, also one of more bytes than a slot may have.
func TestValues(t *testing.T) {
	for _, n := range []int{0, 1, 2, 255, 256, 2047, 2048, 2049, api.MaxBytes, api.MaxBytes + 1, 1 << 20} {
		val := string(bytes.Repeat([]byte{1, 0, 255}, n/3+1)[:n])
		l := []proposer.Promise{told(1, of(1, 0), "y"), told(2, of(1, 1), val), told(0, of(0, 0), "z")}
		if got, is := proposer.Choose(l, 3); !is || string(got) != val {
			t.Fatalf("a value of %d bytes: %t, %d bytes", n, is, len(got))
		}
	}
}

// lists calls do with each list of up to so many of some things.
func lists[T any](of []T, size int, do func([]T)) {
	var walk func(l []T)
	walk = func(l []T) {
		do(l)
		if len(l) == size {
			return
		}
		for _, e := range of {
			walk(append(slices.Clip(l), e))
		}
	}
	walk(nil)
}

// P11.1: all lists of up to three promises, of sites and of numbers that are none.
func TestChooseOfAll(t *testing.T) {
	var all []proposer.Promise
	for _, from := range []int{-1, 0, 1, 2} {
		all = append(all, empty(from), proposer.Promise{From: from, At: of(9, 9), Val: []byte("n")})
		for _, at := range []api.Ballot{of(-1, 2), of(0, 0), of(1, 0), of(1, 1), of(2, 0)} {
			all = append(all, told(from, at, string([]byte{byte('a' + from), byte('a' + at.Round), byte('a' + at.Site)})))
		}
	}
	lists(all, 3, func(l []proposer.Promise) {
		for n := -1; n <= 5; n++ {
			chooses(t, l, n)
		}
	})
}

// P11.2: answers that are written out.
func TestDecided(t *testing.T) {
	b := of(1, 2)
	for _, c := range []struct {
		name string
		l    []proposer.Vote
		n    int
		want bool
	}{
		{"none", nil, 3, false},
		{"none, of no sites", nil, 0, false},
		{"none, of fewer than no sites", nil, -1, false},
		{"of no sites", []proposer.Vote{vote(0, b), vote(-1, b)}, 0, false},
		{"of fewer than no sites", []proposer.Vote{vote(0, b), vote(-1, b)}, -3, false},
		{"one of one", []proposer.Vote{vote(0, b)}, 1, true},
		{"one of two", []proposer.Vote{vote(0, b)}, 2, false},
		{"two of two", []proposer.Vote{vote(0, b), vote(1, b)}, 2, true},
		{"one of three", []proposer.Vote{vote(2, b)}, 3, false},
		{"two of three", []proposer.Vote{vote(2, b), vote(0, b)}, 3, true},
		{"three of three", []proposer.Vote{vote(2, b), vote(0, b), vote(1, b)}, 3, true},
		{"two of four", []proposer.Vote{vote(2, b), vote(0, b)}, 4, false},
		{"three of five", []proposer.Vote{vote(4, b), vote(0, b), vote(3, b)}, 5, true},
		{"three of six", []proposer.Vote{vote(4, b), vote(0, b), vote(3, b)}, 6, false},
		{"four of seven", []proposer.Vote{vote(4, b), vote(0, b), vote(3, b), vote(6, b)}, 7, true},
		{"one site twice", []proposer.Vote{vote(1, b), vote(1, b)}, 3, false},
		{"with one that is no site", []proposer.Vote{vote(1, b), vote(3, b)}, 3, false},
		{"with one below the sites", []proposer.Vote{vote(1, b), vote(-1, b)}, 3, false},
		{"of another round", []proposer.Vote{vote(1, b), vote(0, of(2, 2))}, 3, false},
		{"of a lesser round", []proposer.Vote{vote(1, b), vote(0, of(0, 2))}, 3, false},
		{"of another site", []proposer.Vote{vote(1, b), vote(0, of(1, 1))}, 3, false},
		{"of the round alone", []proposer.Vote{vote(1, of(1, 1)), vote(0, of(1, 0))}, 3, false},
		{"among others", []proposer.Vote{vote(1, of(2, 2)), vote(1, b), vote(2, of(0, 2)), vote(0, b)}, 3, true},
		{"most at another one", []proposer.Vote{vote(0, of(1, 1)), vote(1, of(1, 1)), vote(2, b)}, 3, false},
	} {
		if is := proposer.Decided(c.l, b, c.n); is != c.want {
			t.Errorf("%s: %t", c.name, is)
		}
	}
}

// P11.2: answers that are written out; who voted, and whether it is a site, makes nothing of it.
func TestGreatest(t *testing.T) {
	for _, c := range []struct {
		l    []proposer.Vote
		want api.Ballot
		is   bool
	}{
		{nil, of(0, 0), false},
		{[]proposer.Vote{}, of(0, 0), false},
		{[]proposer.Vote{{}}, of(0, 0), true},
		{[]proposer.Vote{vote(5, of(3, 1))}, of(3, 1), true},
		{[]proposer.Vote{vote(0, of(1, 2)), vote(1, of(2, 0))}, of(2, 0), true},
		{[]proposer.Vote{vote(0, of(2, 0)), vote(1, of(1, 2))}, of(2, 0), true},
		{[]proposer.Vote{vote(0, of(2, 0)), vote(1, of(2, 1))}, of(2, 1), true},
		{[]proposer.Vote{vote(0, of(2, 1)), vote(1, of(2, 0))}, of(2, 1), true},
		{[]proposer.Vote{vote(0, of(1, 0)), vote(-1, of(4, 1)), vote(2, of(3, 2))}, of(4, 1), true},
		{[]proposer.Vote{vote(9, of(4, 9)), vote(0, of(4, 1))}, of(4, 9), true},
		{[]proposer.Vote{vote(0, of(-2, 0)), vote(1, of(-1, -1))}, of(-1, -1), true},
		{[]proposer.Vote{vote(0, of(0, -1))}, of(0, -1), true},
		{[]proposer.Vote{vote(0, of(math.MinInt, math.MinInt))}, of(math.MinInt, math.MinInt), true},
		{[]proposer.Vote{vote(0, of(math.MaxInt, 0)), vote(1, of(math.MinInt, 1))}, of(math.MaxInt, 0), true},
	} {
		if b, is := proposer.Greatest(c.l); is != c.is || b != c.want {
			t.Errorf("Greatest(%v): %v, %t", c.l, b, is)
		}
	}
}

// P11.2: all lists of up to three votes, of sites and of numbers that are none.
func TestDecidedOfAll(t *testing.T) {
	bals := []api.Ballot{of(-1, 2), of(0, 0), of(1, 0), of(1, 1)}
	var all []proposer.Vote
	for _, from := range []int{-1, 0, 1, 2} {
		for _, b := range bals {
			all = append(all, vote(from, b))
		}
	}
	lists(all, 3, func(l []proposer.Vote) {
		for n := -1; n <= 5; n++ {
			for _, b := range bals {
				decides(t, l, b, n)
			}
		}
	})
}

// P11.1, P11.2: of two ballots of each edge, in either order; of so many sites, told by numbers of each edge.
func TestAtEdges(t *testing.T) {
	for _, a := range ballots() {
		for _, b := range ballots() {
			chooses(t, []proposer.Promise{told(0, a, "x"), told(1, b, "y")}, 3)
			for _, c := range []api.Ballot{a, b, of(0, 0)} {
				decides(t, []proposer.Vote{vote(0, a), vote(1, b)}, c, 3)
				decides(t, []proposer.Vote{vote(0, a), vote(1, b), vote(2, a)}, c, 3)
			}
		}
	}
	numbers := []int{math.MinInt, math.MinInt + 1, -1, 0, 1, 2, 6, 7, math.MaxInt - 1, math.MaxInt}
	for _, n := range numbers {
		for _, from := range numbers {
			chooses(t, []proposer.Promise{told(from, of(1, 1), "x"), empty(0)}, n)
			chooses(t, []proposer.Promise{empty(0), empty(1), told(from, of(1, 1), "x")}, n)
			decides(t, []proposer.Vote{vote(from, of(1, 1)), vote(0, of(1, 1))}, of(1, 1), n)
		}
	}
}

// P11.1, P11.2: by chance, of long lists.
func TestByChance(t *testing.T) {
	rnd := rand.New(rand.NewSource(1))
	for range 3000 {
		n := rnd.Intn(api.MaxSites + 2)
		rounds := 1 + rnd.Intn(1+rnd.Intn(20))
		b := func() api.Ballot { return of(rnd.Intn(rounds), rnd.Intn(api.MaxSites)) }
		var promises []proposer.Promise
		var votes []proposer.Vote
		for range rnd.Intn(2 * (n + 1)) {
			p := told(rnd.Intn(n+3)-1, b(), string([]byte{byte(rnd.Intn(256)), byte(rnd.Intn(256))}))
			p.Some = rnd.Intn(3) > 0
			promises = append(promises, p)
			votes = append(votes, vote(rnd.Intn(n+3)-1, b()))
		}
		chooses(t, promises, n)
		decides(t, votes, b(), n)
		if len(votes) > 0 {
			decides(t, votes, votes[0].Bal, n)
		}
	}
}

// R1: beside false there is nothing.
func TestNothingBesideFalse(t *testing.T) {
	if val, is := proposer.Choose([]proposer.Promise{told(0, of(1, 1), "x")}, 3); is || len(val) != 0 {
		t.Errorf("Choose: %q, %t", val, is)
	}
	if b, is := proposer.Greatest(nil); is || b != of(0, 0) {
		t.Errorf("Greatest: %v, %t", b, is)
	}
}

// R2: nil and empty lists and values are the same.
func TestNilAndEmpty(t *testing.T) {
	for _, n := range []int{-1, 0, 1, 3} {
		chooses(t, nil, n)
		chooses(t, []proposer.Promise{}, n)
		decides(t, nil, of(0, 0), n)
		decides(t, []proposer.Vote{}, of(0, 0), n)
	}
	for _, val := range [][]byte{nil, {}} {
		l := []proposer.Promise{{From: 0, Some: true, At: of(2, 0), Val: val}, told(1, of(1, 1), "x")}
		if got, is := proposer.Choose(l, 3); !is || len(got) != 0 {
			t.Errorf("Choose of an empty value: %q, %t", got, is)
		}
	}
}

// R3: what is handed in stays as it is, and what is told is shared with nothing.
func TestOwn(t *testing.T) {
	make3 := func() []proposer.Promise {
		return []proposer.Promise{told(2, of(1, 0), "y"), told(0, of(2, 1), "xx"), empty(1), told(1, of(2, 0), "z")}
	}
	l := make3()
	first, _ := proposer.Choose(l[:3:4], 3)
	second, _ := proposer.Choose(l[:3:4], 3)
	first[0], first = '-', append(first, '-')
	if string(second) != "xx" {
		t.Errorf("a second answer is %q", second)
	}
	for i, p := range make3() {
		if l[i].From != p.From || l[i].Some != p.Some || l[i].At != p.At || string(l[i].Val) != string(p.Val) {
			t.Errorf("handed in, promise %d became %v", i, l[i])
		}
	}
	l[1].Val[1] = '+'
	if string(second) != "xx" {
		t.Errorf("an answer became %q", second)
	}
	votes := []proposer.Vote{vote(2, of(1, 0)), vote(0, of(2, 1)), vote(1, of(1, 0)), vote(0, of(1, 0))}
	kept := slices.Clone(votes)
	proposer.Decided(votes[:3], of(1, 0), 3)
	proposer.Greatest(votes[:3])
	if !slices.Equal(votes, kept) {
		t.Errorf("handed in, votes became %v", votes)
	}
}

// R4: calls beside each other answer as if each were alone.
func TestBeside(t *testing.T) {
	promises := []proposer.Promise{told(2, of(1, 0), "y"), told(0, of(2, 1), "x"), empty(1)}
	votes := []proposer.Vote{vote(2, of(1, 0)), vote(0, of(2, 1)), vote(1, of(1, 0))}
	var group sync.WaitGroup
	for range 8 {
		group.Go(func() {
			for range 200 {
				val, is := proposer.Choose(promises, 3)
				b, some := proposer.Greatest(votes)
				if !is || string(val) != "x" || !some || b != of(2, 1) || !proposer.Decided(votes, of(1, 0), 3) {
					t.Errorf("%q, %t, %v, %t", val, is, b, some)
					return
				}
			}
		})
	}
	group.Wait()
}
