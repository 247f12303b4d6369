package proposer_test

import (
	"math/rand"
	"slices"
	"testing"

	"agio/acceptor"
	"agio/api"
	"agio/proposer"
)

// P11.3 is held twice: of three sites and three ballots, whatever can be; of more, what chance brings.

// What is put in at a ballot, or was accepted: not anything yet, nothing, or round 0's value.
const (
	none = iota
	nothing
	value
)

// knows is an acceptor's state in few numbers: the place of the ballot that it promised; that of the one at which it accepted, and one more (0: at none); and what.
type knows struct{ promised, at, val int8 }

// under is what was done, and what is under way: that stays under way, as it may come late, or often; and what isn't taken is lost.
type under struct {
	sites [3]knows
	told  [3][3]uint8 // by ballots and sites: a bit for each thing that a promise told
	votes [3]uint8    // by ballots: a bit for each site
	put   [3]int8     // by ballots
}

// rounds are the ballots of what can be: round 0's, and two that are asked for ahead.
func rounds() []api.Ballot { return []api.Ballot{of(0, 0), of(1, 1), of(1, 2)} }

func bytesOf(val int8) []byte {
	if val == value {
		return []byte("x")
	}
	return nil
}

func valOf(b []byte) int8 {
	if len(b) > 0 {
		return value
	}
	return nothing
}

// whole is a state of few numbers as the program has it; few turns it round.
func whole(k knows) acceptor.State {
	s := acceptor.State{Promised: rounds()[k.promised]}
	if k.at > 0 {
		s.Some, s.At, s.Val = true, rounds()[k.at-1], bytesOf(k.val)
	}
	return s
}

func few(s acceptor.State) knows {
	k := knows{promised: int8(slices.Index(rounds(), s.Promised))}
	if s.Some {
		k.at, k.val = int8(slices.Index(rounds(), s.At))+1, valOf(s.Val)
	}
	return k
}

// prepare is what comes of it when a site is asked to promise a ballot; accept, to accept what is put in at it.
func (u under) prepare(site, b int) under {
	k := u.sites[site]
	if s, is := acceptor.Prepare(whole(k), rounds()[b]); is {
		u.sites[site] = few(s)
		bit := 2 * k.at
		if k.val == value {
			bit++
		}
		u.told[b][site] |= 1 << bit
	}
	return u
}

func (u under) accept(site, b int) under {
	if s, is := acceptor.Accept(whole(u.sites[site]), rounds()[b], bytesOf(u.put[b])); is {
		u.sites[site] = few(s)
		u.votes[b] |= 1 << site
	}
	return u
}

// promises are those of a ballot that are under way.
func (u under) promises(b int) []proposer.Promise {
	var l []proposer.Promise
	for site, bits := range u.told[b] {
		for i := range 8 {
			if bits>>i&1 == 1 {
				s := whole(knows{at: int8(i / 2), val: nothing + int8(i%2)})
				l = append(l, proposer.Promise{From: site, Some: s.Some, At: s.At, Val: s.Val})
			}
		}
	}
	return l
}

// puts are what may be put in at a ballot: what Choose tells of any of its promises.
func (u under) puts(b int) []int8 {
	if b == 0 {
		return []int8{value}
	}
	var l []int8
	all := u.promises(b)
	for some := range 1 << len(all) {
		var came []proposer.Promise
		for i, p := range all {
			if some>>i&1 == 1 {
				came = append(came, p)
			}
		}
		if val, is := proposer.Choose(came, 3); is {
			l = append(l, valOf(val))
		}
	}
	return l
}

// next is all that may come of what was done.
func (u under) next() []under {
	var l []under
	for b := range rounds() {
		for site := range u.sites {
			if b > 0 {
				l = append(l, u.prepare(site, b))
			}
			if u.put[b] != none {
				l = append(l, u.accept(site, b))
			}
		}
		if u.put[b] == none {
			for _, val := range u.puts(b) {
				w := u
				w.put[b] = val
				l = append(l, w)
			}
		}
	}
	return l
}

// decided are the values of all ballots that are decided.
func (u under) decided() []int8 {
	var l []int8
	var votes []proposer.Vote
	for b, bits := range u.votes {
		for site := range u.sites {
			if bits>>site&1 == 1 {
				votes = append(votes, vote(site, rounds()[b]))
			}
		}
	}
	for b, bal := range rounds() {
		if proposer.Decided(votes, bal, 3) {
			l = append(l, u.put[b])
		}
	}
	return l
}

// P11.3: whatever can be, all ballots that are decided have one value; and each of both values is decided somewhere.
func TestOneValue(t *testing.T) {
	seen := map[under]struct{}{{}: {}}
	came := [3]int{}
	for todo := []under{{}}; len(todo) > 0; todo = todo[1:] {
		l := todo[0].decided()
		for _, val := range l {
			came[val]++
			if val != l[0] {
				t.Fatalf("%v: %v are decided", todo[0], l)
			}
		}
		for _, u := range todo[0].next() {
			if _, is := seen[u]; !is {
				seen[u] = struct{}{}
				todo = append(todo, u)
			}
		}
	}
	if came[none] > 0 || came[nothing] == 0 || came[value] == 0 {
		t.Errorf("of %d: %v are decided", len(seen), came)
	}
}

// asks is a proposer of a ballot: the promises that came to it, and what it put in, once there is something.
type asks struct {
	b    api.Ballot
	came []proposer.Promise
	put  bool
	val  string
}

// chance is a slot of so many sites, whose packets are functions: they are done in any order, once, often, or not at all.
type chance struct {
	rnd     *rand.Rand
	sites   []acceptor.State
	packets []func()
	votes   []proposer.Vote
}

// toAll lays a packet to each site.
func (c *chance) toAll(do func(site int)) {
	for site := range c.sites {
		c.packets = append(c.packets, func() { do(site) })
	}
}

// ask lays the packets that ask for promises of a ballot; what a promise tells is what was accepted when it was made.
func (c *chance) ask(p *asks) {
	c.toAll(func(site int) {
		had := c.sites[site]
		s, is := acceptor.Prepare(had, p.b)
		if !is {
			return
		}
		c.sites[site] = s
		c.packets = append(c.packets, func() { c.take(p, proposer.Promise{From: site, Some: had.Some, At: had.At, Val: had.Val}) })
	})
}

// take takes a promise; with those of most sites the proposer puts in what they leave, once.
func (c *chance) take(p *asks, m proposer.Promise) {
	p.came = append(p.came, m)
	if val, is := proposer.Choose(p.came, len(c.sites)); is && !p.put {
		p.put, p.val = true, string(val)
		c.suggest(p)
	}
}

// suggest lays the packets that ask to accept what was put in.
func (c *chance) suggest(p *asks) {
	c.toAll(func(site int) {
		if s, is := acceptor.Accept(c.sites[site], p.b, []byte(p.val)); is {
			c.sites[site] = s
			c.votes = append(c.votes, vote(site, p.b))
		}
	})
}

// pass does so many packets: of those under way any one, which may come once more, or never.
func (c *chance) pass(packets int) {
	for range packets {
		if len(c.packets) == 0 {
			return
		}
		i := c.rnd.Intn(len(c.packets))
		do := c.packets[i]
		if c.rnd.Intn(4) > 0 {
			c.packets = slices.Delete(c.packets, i, i+1)
		}
		if c.rnd.Intn(5) > 0 {
			do()
		}
	}
}

// decided are the values of those proposers whose ballots are decided.
func (c *chance) decided(all []*asks) []string {
	var l []string
	for _, p := range all {
		if proposer.Decided(c.votes, p.b, len(c.sites)) {
			l = append(l, p.val)
		}
	}
	return l
}

// P11.3: by chance, of all numbers of sites, and of many ballots, some of one round.
func TestOneValueByChance(t *testing.T) {
	rnd := rand.New(rand.NewSource(2))
	came := map[string]int{}
	more := 0
	for range 4000 {
		n := api.MinSites + rnd.Intn(api.MaxSites-api.MinSites+1)
		c := &chance{rnd: rnd, sites: make([]acceptor.State, n)}
		all := []*asks{{b: of(0, rnd.Intn(n)), put: true, val: "x"}}
		c.suggest(all[0])
		for range 1 + rnd.Intn(6) {
			c.pass(rnd.Intn(3 * n))
			p := &asks{b: of(1+rnd.Intn(3), rnd.Intn(n))}
			if !slices.ContainsFunc(all, func(q *asks) bool { return q.b == p.b }) {
				all = append(all, p)
				c.ask(p)
			}
		}
		c.pass(20 * n)
		l := c.decided(all)
		for _, val := range l {
			came[val]++
			if val != l[0] || val != "x" && val != "" {
				t.Fatalf("%d sites, %v: %q are decided", n, c.sites, l)
			}
		}
		if len(l) > 1 {
			more++
		}
	}
	if came["x"] < 100 || came[""] < 100 || more < 100 {
		t.Errorf("%v are decided, %d times at several ballots", came, more)
	}
}
