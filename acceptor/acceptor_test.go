package acceptor_test

import (
	"bytes"
	"math"
	"math/rand"
	"slices"
	"sync"
	"testing"

	"agio/acceptor"
	"agio/api"
)

const (
	top  = 1 << 40 // the last round
	full = 2048    // how many bytes a value has at most
)

// step is what comes to an acceptor: a ballot to promise, or one to accept a value at.
type step struct {
	accept bool
	b      api.Ballot
	val    string
}

func of(round, site int) api.Ballot { return api.Ballot{Round: round, Site: site} }

// promised is a state that accepted nothing; accepted one that accepted a value.
func promised(b api.Ballot) acceptor.State { return acceptor.State{Promised: b} }

func accepted(b, at api.Ballot, val string) acceptor.State {
	return acceptor.State{Promised: b, Some: true, At: at, Val: []byte(val)}
}

// ballots are those of all numbers at which something that the document names begins or ends, and of numbers beyond these.
func ballots() []api.Ballot {
	var l []api.Ballot
	for _, round := range []int{math.MinInt, -1, 0, 1, 2, top - 1, top, top + 1, math.MaxInt} {
		for _, site := range []int{math.MinInt, -1, 0, 1, 2, 3, 6, 7, math.MaxInt} {
			l = append(l, of(round, site))
		}
	}
	return l
}

// below is chapter 8's lesser one of two ballots, as its words say it.
func below(a, b api.Ballot) bool {
	return a.Round < b.Round || a.Round == b.Round && a.Site < b.Site
}

// same tells whether all four of two states are the same.
func same(a, b acceptor.State) bool {
	return a.Promised == b.Promised && a.Some == b.Some && a.At == b.At && string(a.Val) == string(b.Val)
}

// may is P10.2's state that may be, as the chapter's words say it.
func may(s acceptor.State, n int) bool {
	is := func(b api.Ballot) bool { return 0 <= b.Round && b.Round <= top && 0 <= b.Site && b.Site < n }
	if s.Some {
		return is(s.Promised) && is(s.At) && !below(s.Promised, s.At) && len(s.Val) <= 2048
	}
	return is(s.Promised) && s.At.Round == 0 && s.At.Site == 0 && len(s.Val) == 0
}

// want is P10.1's answer to a step, as the chapter's words say it.
func want(s acceptor.State, m step) (acceptor.State, bool) {
	switch {
	case below(m.b, s.Promised):
		return s, false
	case m.accept:
		return acceptor.State{Promised: m.b, Some: true, At: m.b, Val: []byte(m.val)}, true
	case m.b.Round < 1:
		return s, false
	}
	return acceptor.State{Promised: m.b, Some: s.Some, At: s.At, Val: s.Val}, true
}

// do is the program's answer to a step.
func do(s acceptor.State, m step) (acceptor.State, bool) {
	if m.accept {
		return acceptor.Accept(s, m.b, []byte(m.val))
	}
	return acceptor.Prepare(s, m.b)
}

// holds fails unless a step is answered as the chapter's words say it, and tells the state behind it.
func holds(t *testing.T, s acceptor.State, m step) acceptor.State {
	t.Helper()
	got, is := do(s, m)
	if w, wis := want(s, m); is != wis || !same(got, w) {
		t.Fatalf("%v, %v: %v, %t, not %v, %t", s, m, got, is, w, wis)
	}
	return got
}

// The chapter's examples.
func TestExamples(t *testing.T) {
	s, is := acceptor.Prepare(acceptor.State{}, of(1, 2))
	if !is || !same(s, promised(of(1, 2))) {
		t.Errorf("Prepare of {1, 2}: %v, %t", s, is)
	}
	if u, is := acceptor.Accept(s, of(0, 1), []byte("y")); is || !same(u, s) {
		t.Errorf("Accept of {0, 1}: %v, %t", u, is)
	}
	if u, is := acceptor.Accept(s, of(1, 2), []byte("x")); !is || !same(u, accepted(of(1, 2), of(1, 2), "x")) {
		t.Errorf("Accept of {1, 2}: %v, %t", u, is)
	}
}

// P10.1: answers that are written out.
func TestPrepare(t *testing.T) {
	had := accepted(of(3, 1), of(2, 0), "x")
	for _, c := range []struct {
		s    acceptor.State
		b    api.Ballot
		want acceptor.State
		is   bool
	}{
		{promised(of(0, 0)), of(1, 0), promised(of(1, 0)), true},
		{promised(of(0, 0)), of(1, 2), promised(of(1, 2)), true},
		{promised(of(0, 0)), of(top, 6), promised(of(top, 6)), true},
		// the owner's round isn't asked for, nor one below it
		{promised(of(0, 0)), of(0, 0), promised(of(0, 0)), false},
		{promised(of(0, 0)), of(0, 2), promised(of(0, 0)), false},
		{promised(of(0, 0)), of(-1, 2), promised(of(0, 0)), false},
		{promised(of(-3, 0)), of(-1, 0), promised(of(-3, 0)), false},
		{promised(of(-3, 0)), of(0, 0), promised(of(-3, 0)), false},
		{promised(of(-3, 0)), of(1, 0), promised(of(1, 0)), true},
		{accepted(of(0, 1), of(0, 1), "x"), of(0, 1), accepted(of(0, 1), of(0, 1), "x"), false},
		{accepted(of(0, 1), of(0, 1), "x"), of(0, 2), accepted(of(0, 1), of(0, 1), "x"), false},
		{accepted(of(0, 1), of(0, 1), "x"), of(1, 0), accepted(of(1, 0), of(0, 1), "x"), true},
		// around what was promised
		{had, of(3, 1), had, true},
		{had, of(3, 2), accepted(of(3, 2), of(2, 0), "x"), true},
		{had, of(4, 0), accepted(of(4, 0), of(2, 0), "x"), true},
		{had, of(3, 0), had, false},
		{had, of(2, 6), had, false},
		{had, of(2, 0), had, false},
		{had, of(1, 1), had, false},
		{had, of(math.MinInt, 1), had, false},
		{had, of(3, math.MinInt), had, false},
		{had, of(math.MaxInt, math.MinInt), accepted(of(math.MaxInt, math.MinInt), of(2, 0), "x"), true},
	} {
		if s, is := acceptor.Prepare(c.s, c.b); is != c.is || !same(s, c.want) {
			t.Errorf("Prepare(%v, %v): %v, %t, not %v, %t", c.s, c.b, s, is, c.want, c.is)
		}
	}
}

// P10.1: answers that are written out; each value is "y".
func TestAccept(t *testing.T) {
	had := accepted(of(3, 1), of(2, 0), "x")
	for _, c := range []struct {
		s    acceptor.State
		b    api.Ballot
		want acceptor.State
		is   bool
	}{
		// the owner's round, without asking
		{promised(of(0, 0)), of(0, 0), accepted(of(0, 0), of(0, 0), "y"), true},
		{promised(of(0, 0)), of(0, 2), accepted(of(0, 2), of(0, 2), "y"), true},
		{promised(of(0, 0)), of(1, 0), accepted(of(1, 0), of(1, 0), "y"), true},
		{promised(of(0, 0)), of(top, 6), accepted(of(top, 6), of(top, 6), "y"), true},
		{promised(of(0, 0)), of(0, -1), promised(of(0, 0)), false},
		{promised(of(0, 0)), of(-1, 2), promised(of(0, 0)), false},
		// a round below 0 is none that is below what was promised, where that is below it
		{promised(of(-3, 0)), of(-1, 0), accepted(of(-1, 0), of(-1, 0), "y"), true},
		{promised(of(0, -2)), of(0, -1), accepted(of(0, -1), of(0, -1), "y"), true},
		// around what was promised
		{promised(of(1, 2)), of(0, 2), promised(of(1, 2)), false},
		{promised(of(1, 2)), of(1, 1), promised(of(1, 2)), false},
		{promised(of(1, 2)), of(1, 2), accepted(of(1, 2), of(1, 2), "y"), true},
		{had, of(3, 1), accepted(of(3, 1), of(3, 1), "y"), true},
		{had, of(3, 2), accepted(of(3, 2), of(3, 2), "y"), true},
		{had, of(4, 0), accepted(of(4, 0), of(4, 0), "y"), true},
		{had, of(3, 0), had, false},
		{had, of(2, 6), had, false},
		{had, of(2, 0), had, false},
		{had, of(0, 1), had, false},
		{had, of(math.MinInt, 1), had, false},
		{had, of(3, math.MinInt), had, false},
		{had, of(math.MaxInt, math.MinInt), accepted(of(math.MaxInt, math.MinInt), of(math.MaxInt, math.MinInt), "y"), true},
	} {
		if s, is := acceptor.Accept(c.s, c.b, []byte("y")); is != c.is || !same(s, c.want) {
			t.Errorf("Accept(%v, %v): %v, %t, not %v, %t", c.s, c.b, s, is, c.want, c.is)
		}
	}
}

// P10.1: a ballot of each edge, to an acceptor that promised one of each edge, also to states that may not be.
func TestAtEdges(t *testing.T) {
	for _, p := range ballots() {
		states := []acceptor.State{promised(p), accepted(p, p, "x"), accepted(p, of(0, 1), ""), accepted(p, of(math.MaxInt, 1), "x"), {Promised: p, At: of(2, 1), Val: []byte("z")}}
		for _, b := range ballots() {
			for _, s := range states {
				holds(t, s, step{b: b})
				holds(t, s, step{accept: true, b: b})
				holds(t, s, step{accept: true, b: b, val: "y"})
			}
		}
	}
}

// P10.1: whatever the value is, it is accepted as it is, also one of more bytes than a state may have.
func TestValues(t *testing.T) {
	for _, n := range []int{0, 1, 2, 255, 256, full - 1, full, full + 1, api.MaxBytes, api.MaxBytes + 1, 1 << 20} {
		val := bytes.Repeat([]byte{1, 0, 255}, n/3+1)[:n]
		s, is := acceptor.Accept(accepted(of(1, 1), of(1, 1), "x"), of(2, 0), val)
		if !is || !same(s, accepted(of(2, 0), of(2, 0), string(val))) {
			t.Fatalf("a value of %d bytes: %t, %v, %t, %v, %d bytes", n, is, s.Promised, s.Some, s.At, len(s.Val))
		}
		if u, is := acceptor.Prepare(s, of(2, 1)); !is || !same(u, accepted(of(2, 1), of(2, 0), string(val))) {
			t.Fatalf("a value of %d bytes is lost by a promise: %t, %d bytes", n, is, len(u.Val))
		}
	}
}

// P10.2: at each end that the chapter names, and beyond it.
func TestMay(t *testing.T) {
	long := string(bytes.Repeat([]byte("x"), full))
	for _, c := range []struct {
		s    acceptor.State
		n    int
		want bool
	}{
		{acceptor.State{}, 1, true},
		{acceptor.State{}, 3, true},
		{acceptor.State{}, 0, false},
		{acceptor.State{}, -1, false},
		{acceptor.State{}, math.MinInt, false},
		{acceptor.State{}, math.MaxInt, true},
		{acceptor.State{Val: []byte{}}, 3, true},
		{promised(of(1, 2)), 3, true},
		{promised(of(1, 3)), 3, false},
		{promised(of(1, -1)), 3, false},
		{promised(of(-1, 0)), 3, false},
		{promised(of(top, 6)), 7, true},
		{promised(of(top+1, 6)), 7, false},
		// nothing accepted, but something of it
		{acceptor.State{Promised: of(5, 0), At: of(0, 1)}, 3, false},
		{acceptor.State{Promised: of(5, 0), At: of(1, 0)}, 3, false},
		{acceptor.State{Promised: of(5, 0), At: of(0, -1)}, 3, false},
		{acceptor.State{Promised: of(5, 0), At: of(-1, 0)}, 3, false},
		{acceptor.State{Promised: of(5, 0), Val: []byte("x")}, 3, false},
		{acceptor.State{Promised: of(5, 0), Val: []byte{0}}, 3, false},
		// something accepted
		{accepted(of(0, 0), of(0, 0), ""), 3, true},
		{accepted(of(0, 0), of(0, 0), "x"), 1, true},
		{accepted(of(5, 1), of(5, 1), "x"), 3, true},
		{accepted(of(5, 1), of(5, 0), "x"), 3, true},
		{accepted(of(5, 1), of(4, 2), "x"), 3, true},
		{accepted(of(5, 1), of(0, 2), "x"), 3, true},
		{accepted(of(5, 1), of(5, 2), "x"), 3, false},
		{accepted(of(5, 1), of(6, 0), "x"), 3, false},
		{accepted(of(5, 1), of(4, 3), "x"), 3, false},
		{accepted(of(5, 1), of(4, -1), "x"), 3, false},
		{accepted(of(5, 1), of(-1, 0), "x"), 3, false},
		{accepted(of(5, 3), of(4, 0), "x"), 3, false},
		{accepted(of(top, 6), of(top, 6), "x"), 7, true},
		{accepted(of(top+1, 6), of(top, 6), "x"), 7, false},
		{accepted(of(5, 1), of(4, 0), "x"), 0, false},
		{accepted(of(5, 1), of(4, 0), long[1:]), 3, true},
		{accepted(of(5, 1), of(4, 0), long), 3, true},
		{accepted(of(5, 1), of(4, 0), long+"x"), 3, false},
		{accepted(of(5, 1), of(4, 0), long+long), 3, false},
	} {
		if is := acceptor.May(c.s, c.n); is != c.want {
			t.Errorf("May(%v, %t, %v, %d bytes; %d): %t", c.s.Promised, c.s.Some, c.s.At, len(c.s.Val), c.n, is)
		}
	}
}

// P10.2: a state of two ballots of each edge, of values at both ends, and of so many sites.
func TestMayAtEdges(t *testing.T) {
	values := [][]byte{nil, {}, []byte("x"), make([]byte, full), make([]byte, full+1)}
	for _, n := range []int{math.MinInt, -1, 0, 1, 3, 7, 8, math.MaxInt} {
		for _, p := range ballots() {
			for _, at := range ballots() {
				for i, val := range values {
					for _, some := range []bool{false, true} {
						s := acceptor.State{Promised: p, Some: some, At: at, Val: val}
						if is := acceptor.May(s, n); is != may(s, n) {
							t.Fatalf("May(%v, %t, %v, value %d; %d): %t", p, some, at, i, n, is)
						}
					}
				}
			}
		}
	}
}

// P10.2, R2: of each two states of a few, of which some are unlike in one thing alone; nil and empty are the same.
func TestSame(t *testing.T) {
	bals := []api.Ballot{of(0, 0), of(0, 1), of(1, 0), of(1, 1), of(1<<32, 0), of(-1, 0)}
	values := [][]byte{nil, {}, {0}, []byte("x"), []byte("y"), []byte("xy"), []byte("xyz")}
	var l []acceptor.State
	for _, p := range bals {
		for _, at := range bals {
			for _, val := range values {
				l = append(l, acceptor.State{Promised: p, At: at, Val: val}, acceptor.State{Promised: p, Some: true, At: at, Val: val})
			}
		}
	}
	for _, a := range l {
		for _, b := range l {
			if is := acceptor.Same(a, b); is != same(a, b) {
				t.Fatalf("Same(%v, %v): %t", a, b, is)
			}
		}
	}
	long := bytes.Repeat([]byte("x"), full+1)
	if !acceptor.Same(acceptor.State{Val: long}, acceptor.State{Val: slices.Clone(long)}) || acceptor.Same(acceptor.State{Val: long}, acceptor.State{Val: long[1:]}) {
		t.Error("Same of long values")
	}
}

// steps are all of a few ballots, those that accept with each of some values.
func steps(values ...string) []step {
	var l []step
	for round := range 3 {
		for site := range 2 {
			l = append(l, step{b: of(round, site)})
			for _, val := range values {
				l = append(l, step{accept: true, b: of(round, site), val: val})
			}
		}
	}
	return l
}

// check holds P10.3 of a step that turned a state into another one, of which there are so many sites.
func check(t *testing.T, s acceptor.State, m step, next acceptor.State, n int) {
	t.Helper()
	if below(next.Promised, s.Promised) {
		t.Fatalf("%v, %v: less is promised: %v", s, m, next)
	}
	if next.Some && below(next.Promised, next.At) || s.Some && !next.Some || below(next.At, s.At) {
		t.Fatalf("%v, %v: %v accepted", s, m, next)
	}
	if again, _ := do(next, m); !same(again, next) {
		t.Fatalf("%v, %v, once more: %v", next, m, again)
	}
	if !acceptor.May(next, n) {
		t.Fatalf("%v, %v: %v may not be", s, m, next)
	}
}

// P10.1, P10.3: all rows of four steps, of two values at each ballot.
func TestRows(t *testing.T) {
	all := steps("x", "y")
	var walk func(s acceptor.State, left int)
	walk = func(s acceptor.State, left int) {
		if left == 0 {
			return
		}
		for _, m := range all {
			next := holds(t, s, m)
			check(t, s, m, next, 2)
			walk(next, left-1)
		}
	}
	walk(acceptor.State{}, 4)
}

// P10.3: of one value at each ballot, whatever came, and however long ago, changes nothing when it comes once more.
func TestOnceMore(t *testing.T) {
	rnd := rand.New(rand.NewSource(1))
	for range 2000 {
		s := acceptor.State{}
		var came []step
		for range 12 {
			b := of(rnd.Intn(4), rnd.Intn(3))
			m := step{accept: rnd.Intn(2) == 0, b: b}
			if m.accept {
				m.val = string([]byte{byte('a' + b.Round), byte('a' + b.Site)})
			}
			next := holds(t, s, m)
			check(t, s, m, next, 3)
			s = next
			came = append(came, m)
			for _, old := range came {
				if again, _ := do(s, old); !acceptor.Same(again, s) {
					t.Fatalf("%v: %v, once more: %v", came, old, again)
				}
			}
		}
	}
}

// P10.3: by chance, of all rounds and of as many sites as there are at most.
func TestByChance(t *testing.T) {
	rnd := rand.New(rand.NewSource(2))
	for range 500 {
		s := acceptor.State{}
		for range 40 {
			m := step{accept: rnd.Intn(2) == 0, b: of(rnd.Intn(1+rnd.Intn(top+1)), rnd.Intn(api.MaxSites))}
			if rnd.Intn(3) == 0 {
				m.b.Round = s.Promised.Round
			}
			if m.accept {
				m.val = string(make([]byte, rnd.Intn(full+1)))
			}
			next := holds(t, s, m)
			check(t, s, m, next, api.MaxSites)
			s = next
		}
	}
}

// P10.1, P10.3: what was accepted last stands whole through promises of which some are refused, and is told with them.
func TestPromisesKeep(t *testing.T) {
	s, _ := acceptor.Accept(acceptor.State{}, of(0, 1), []byte("x"))
	for round := 1; round <= 50; round++ {
		b, lesser := of(round, round%3), of(round-1, 2)
		s, _ = acceptor.Prepare(s, b)
		s, _ = acceptor.Prepare(s, lesser)
		s, _ = acceptor.Accept(s, lesser, []byte("y"))
		if !same(s, accepted(b, of(0, 1), "x")) {
			t.Fatalf("round %d: %v", round, s)
		}
	}
}

// R3: what is handed in stays as it is, and shares nothing with what is told, be it done or refused.
func TestShared(t *testing.T) {
	for _, m := range []step{{b: of(5, 0)}, {b: of(3, 1)}, {b: of(1, 0)}, {b: of(0, 0)}, {b: of(-1, 0)}, {accept: true, b: of(5, 0)}, {accept: true, b: of(3, 1)}, {accept: true, b: of(1, 0)}} {
		// Behind each value its memory goes on: nothing that is told may reach into that.
		had, put := []byte("abcdef"), []byte("uvwxyz")
		s := acceptor.State{Promised: of(3, 1), Some: true, At: of(2, 0), Val: had[:3]}
		got, _ := acceptor.Prepare(s, m.b)
		if m.accept {
			got, _ = acceptor.Accept(s, m.b, put[:3])
		}
		told := string(got.Val)
		grown := append(got.Val, '!')
		for i := range grown {
			grown[i] = '?'
		}
		for i := range got.Val {
			got.Val[i] = '?'
		}
		if string(had) != "abcdef" || string(put) != "uvwxyz" {
			t.Fatalf("%v: what was handed in is %s, %s", m, had, put)
		}
		copy(got.Val, told)
		for i := range had {
			had[i], put[i] = '-', '-'
		}
		if string(got.Val) != told {
			t.Fatalf("%v: what was told is %s", m, got.Val)
		}
	}
}

// R3: the value that a state has is handed in as the one to accept.
func TestSharedWithItself(t *testing.T) {
	s := accepted(of(1, 1), of(1, 1), "abc")
	got, is := acceptor.Accept(s, of(2, 0), s.Val)
	s.Val[0] = '-'
	if !is || !same(got, accepted(of(2, 0), of(2, 0), "abc")) {
		t.Errorf("%v, %t", got, is)
	}
}

// R4: calls beside each other don't touch.
func TestBeside(t *testing.T) {
	var done sync.WaitGroup
	for i := range int64(8) {
		done.Go(func() {
			rnd := rand.New(rand.NewSource(i))
			s := acceptor.State{}
			for range 500 {
				m := step{accept: rnd.Intn(2) == 0, b: of(s.Promised.Round+rnd.Intn(4)-1, rnd.Intn(3)), val: string(rune('a' + rnd.Intn(26)))}
				w, wis := want(s, m)
				got, is := do(s, m)
				if is != wis || !acceptor.Same(got, w) || acceptor.May(got, 3) != may(w, 3) {
					t.Error("another answer beside others")
				}
				s = got
			}
		})
	}
	done.Wait()
}
