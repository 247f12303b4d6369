package learn_test

import (
	"bytes"
	"math"
	"math/rand"
	"slices"
	"strings"
	"sync"
	"testing"

	"agio/api"
	"agio/learn"
)

const most = 2048 // how many bytes a value has at most

// model is what is decided, as the chapter's words say it: all that is asked is found anew, of all slots.
type model struct {
	vals  map[int]string
	taken int
}

func empty() *model { return &model{vals: map[int]string{}} }

func (m *model) is(slot int) bool {
	_, is := m.vals[slot]
	return is
}

func (m *model) put(slot int, val string) api.Errno {
	switch {
	case slot < 0 || slot > 4095 || len(val) > most:
		return api.ErrArg
	case m.is(slot) && m.vals[slot] != val:
		return api.ErrThere
	}
	m.vals[slot] = val
	return api.OK
}

func (m *model) frontier() int {
	for s := range 4096 {
		if !m.is(s) {
			return s
		}
	}
	return 4096
}

func (m *model) top() int {
	top := 0
	for s := range m.vals {
		top = max(top, s+1)
	}
	return top
}

func (m *model) missing(to int) []int {
	var l []int
	for s := range min(to, 4096) {
		if s >= m.frontier() && !m.is(s) {
			l = append(l, s)
		}
	}
	return l
}

func (m *model) take() []string {
	var l []string
	for s := range m.frontier() {
		if s >= m.taken {
			l = append(l, m.vals[s])
		}
	}
	m.taken = m.frontier()
	return l
}

// texts are values as texts.
func texts(l [][]byte) []string {
	var t []string
	for _, v := range l {
		t = append(t, string(v))
	}
	return t
}

// same fails unless what a learner tells, without being changed by it, is what the model tells: of some slots and some ends.
func same(t *testing.T, l *learn.Learn, m *model, slots, ends []int) {
	t.Helper()
	if f, top, taken := l.Frontier(), l.Top(), l.Taken(); f != m.frontier() || top != m.top() || taken != m.taken {
		t.Fatalf("Frontier %d, Top %d, Taken %d, not %d, %d, %d", f, top, taken, m.frontier(), m.top(), m.taken)
	}
	for _, s := range slots {
		if val, is := l.Get(s); is != m.is(s) || string(val) != m.vals[s] {
			t.Fatalf("Get(%d): %q, %t, not %q, %t", s, val, is, m.vals[s], m.is(s))
		}
	}
	for _, to := range ends {
		if got, want := l.Missing(to), m.missing(to); !slices.Equal(got, want) {
			t.Fatalf("Missing(%d): %v, not %v", to, got, want)
		}
	}
}

// puts fails unless Put answers as the model's.
func puts(t *testing.T, l *learn.Learn, m *model, slot int, val string) {
	t.Helper()
	if e, want := l.Put(slot, []byte(val)), m.put(slot, val); e != want {
		t.Fatalf("Put(%d, %d bytes): %v, not %v", slot, len(val), e, want)
	}
}

// takes fails unless Take answers as the model's.
func takes(t *testing.T, l *learn.Learn, m *model) {
	t.Helper()
	if got, want := texts(l.Take()), m.take(); !slices.Equal(got, want) {
		t.Fatalf("Take: %q, not %q", got, want)
	}
}

// The chapter's examples.
func TestExamples(t *testing.T) {
	l := learn.New()
	if e := l.Put(1, []byte("b")); e != api.OK || len(l.Take()) != 0 {
		t.Errorf("Put of slot 1: %v", e)
	}
	if e := l.Put(0, []byte("a")); e != api.OK {
		t.Errorf("Put of slot 0: %v", e)
	}
	if got := texts(l.Take()); !slices.Equal(got, []string{"a", "b"}) || l.Frontier() != 2 {
		t.Errorf("Take: %q, Frontier %d", got, l.Frontier())
	}
}

// P12.1, P12.2: of a new one nothing is decided, and nothing was taken.
func TestNew(t *testing.T) {
	l := learn.New()
	if l.Frontier() != 0 || l.Top() != 0 || l.Taken() != 0 || len(l.Take()) != 0 || l.Taken() != 0 {
		t.Errorf("Frontier %d, Top %d, Taken %d", l.Frontier(), l.Top(), l.Taken())
	}
	for s := -1; s <= 4096; s++ {
		if val, is := l.Get(s); is || len(val) != 0 {
			t.Fatalf("Get(%d): %q, %t", s, val, is)
		}
	}
	if got := l.Missing(3); !slices.Equal(got, []int{0, 1, 2}) {
		t.Errorf("Missing(3): %v", got)
	}
}

// P12.1: which slots and values are taken in, and what is answered of one that is decided; where both are wrong, ErrArg is.
func TestPut(t *testing.T) {
	long, full := strings.Repeat("x", most+1), strings.Repeat("x", most)
	l := learn.New()
	for i, c := range []struct {
		slot int
		val  string
		want api.Errno
	}{
		{math.MinInt, "a", api.ErrArg},
		{-1, "a", api.ErrArg},
		{-1, long, api.ErrArg},
		{4096, "a", api.ErrArg},
		{4097, "", api.ErrArg},
		{math.MaxInt, "a", api.ErrArg},
		{0, long, api.ErrArg},
		{0, "a", api.OK},
		{0, "a", api.OK},
		{0, "b", api.ErrThere},
		{0, "", api.ErrThere},
		{0, "ab", api.ErrThere},
		{0, long, api.ErrArg},
		{0, "a", api.OK},
		{4095, full, api.OK},
		{4095, full, api.OK},
		{4095, full[1:], api.ErrThere},
		{4095, full[1:] + "y", api.ErrThere},
		{4095, long, api.ErrArg},
		{7, "", api.OK},
		{7, "", api.OK},
		{7, "\x00", api.ErrThere},
		{7, "a", api.ErrThere},
		{8, "a", api.OK},
		{9, "\x00", api.OK},
		{9, "\x00\x00", api.ErrThere},
		{9, "", api.ErrThere},
	} {
		if e := l.Put(c.slot, []byte(c.val)); e != c.want {
			t.Errorf("%d: Put(%d, %d bytes): %v, not %v", i, c.slot, len(c.val), e, c.want)
		}
	}
	want := map[int]string{0: "a", 4095: full, 7: "", 8: "a", 9: "\x00"}
	for s := -2; s <= 4098; s++ {
		text, wis := want[s]
		if val, is := l.Get(s); is != wis || string(val) != text {
			t.Errorf("Get(%d): %q, %t", s, val, is)
		}
	}
}

// P12.1: with an error nothing is changed.
func TestNothingChangedByErrors(t *testing.T) {
	l, m := learn.New(), empty()
	for _, s := range []int{0, 1, 3} {
		puts(t, l, m, s, string([]byte{byte('a' + s)}))
	}
	takes(t, l, m)
	puts(t, l, m, 2, "c")
	for _, c := range []struct {
		slot int
		val  string
	}{{-1, "x"}, {4096, "x"}, {math.MinInt, "x"}, {math.MaxInt, "x"}, {4, strings.Repeat("x", most+1)}, {1, "x"}, {2, "x"}, {3, ""}, {3, strings.Repeat("x", most+1)}} {
		if e := l.Put(c.slot, []byte(c.val)); e == api.OK {
			t.Errorf("Put(%d): OK", c.slot)
		}
		same(t, l, m, []int{-1, 0, 1, 2, 3, 4, 4096}, []int{0, 4, 5, 6, 4096})
	}
	takes(t, l, m)
}

// P12.2: answers that are written out.
func TestFrontierAndMissing(t *testing.T) {
	for _, c := range []struct {
		put        []int
		front, top int
		to         int
		missing    []int
	}{
		{nil, 0, 0, 0, nil},
		{nil, 0, 0, -1, nil},
		{nil, 0, 0, math.MinInt, nil},
		{nil, 0, 0, 1, []int{0}},
		{nil, 0, 0, 4, []int{0, 1, 2, 3}},
		{[]int{0}, 1, 1, 0, nil},
		{[]int{0}, 1, 1, 1, nil},
		{[]int{0}, 1, 1, 2, []int{1}},
		{[]int{1}, 0, 2, 1, []int{0}},
		{[]int{1}, 0, 2, 2, []int{0}},
		{[]int{1}, 0, 2, 3, []int{0, 2}},
		{[]int{2, 0}, 1, 3, 5, []int{1, 3, 4}},
		{[]int{2, 0, 1}, 3, 3, 5, []int{3, 4}},
		{[]int{5, 2, 3, 0, 1}, 4, 6, 6, []int{4}},
		{[]int{5, 2, 3, 0, 1}, 4, 6, 8, []int{4, 6, 7}},
		{[]int{5, 2, 3, 0, 1, 4}, 6, 6, 6, nil},
		{[]int{9, 1, 0}, 2, 10, 9, []int{2, 3, 4, 5, 6, 7, 8}},
		{[]int{9, 1, 0}, 2, 10, 2, nil},
		{[]int{9, 1, 0}, 2, 10, 3, []int{2}},
		{[]int{4095}, 0, 4096, 2, []int{0, 1}},
	} {
		l := learn.New()
		for _, s := range c.put {
			l.Put(s, nil)
		}
		if l.Frontier() != c.front || l.Top() != c.top || !slices.Equal(l.Missing(c.to), c.missing) {
			t.Errorf("%v: Frontier %d, Top %d, Missing(%d) %v", c.put, l.Frontier(), l.Top(), c.to, l.Missing(c.to))
		}
	}
}

// P12.2: at the last slots, and when all are decided.
func TestAtTheEnd(t *testing.T) {
	l := learn.New()
	for s := range 4094 {
		l.Put(s, []byte{byte(s)})
	}
	ends := []int{4093, 4094, 4095, 4096, 4097, math.MaxInt - 1, math.MaxInt}
	check := func(front, top int, last ...[]int) {
		t.Helper()
		if l.Frontier() != front || l.Top() != top {
			t.Errorf("Frontier %d, Top %d, not %d, %d", l.Frontier(), l.Top(), front, top)
		}
		for i, to := range ends {
			if got := l.Missing(to); !slices.Equal(got, last[min(i, 3)]) {
				t.Errorf("Missing(%d): %v", to, got)
			}
		}
	}
	check(4094, 4094, nil, nil, []int{4094}, []int{4094, 4095})
	if got := l.Take(); len(got) != 4094 || l.Taken() != 4094 {
		t.Errorf("Take: %d, Taken %d", len(got), l.Taken())
	}
	l.Put(4095, []byte("z"))
	check(4094, 4096, nil, nil, []int{4094}, []int{4094})
	if got := l.Take(); len(got) != 0 || l.Taken() != 4094 {
		t.Errorf("Take: %d, Taken %d", len(got), l.Taken())
	}
	l.Put(4094, []byte("y"))
	check(4096, 4096, nil, nil, nil, nil)
	for _, want := range [][]string{{"y", "z"}, nil} {
		if got := texts(l.Take()); !slices.Equal(got, want) || l.Taken() != 4096 {
			t.Errorf("Take: %q, Taken %d", got, l.Taken())
		}
	}
	if e := l.Put(4096, nil); e != api.ErrArg {
		t.Errorf("Put(4096) when all are decided: %v", e)
	}
}

// P12.2: what is taken, step by step; empty values are taken, too, and nothing is taken twice.
func TestTake(t *testing.T) {
	l := learn.New()
	for i, c := range []struct {
		slot  int
		val   string
		want  []string
		taken int
	}{
		{2, "c", nil, 0},
		{0, "", []string{""}, 1},
		{0, "", nil, 1},
		{4, "", nil, 1},
		{1, "b", []string{"b", "c"}, 3},
		{0, "x", nil, 3},
		{5, "f", nil, 3},
		{3, "", []string{"", "", "f"}, 6},
		{7, "h", nil, 6},
	} {
		l.Put(c.slot, []byte(c.val))
		if l.Taken() > c.taken {
			t.Errorf("%d: Taken %d ahead of Take", i, l.Taken())
		}
		if got := texts(l.Take()); !slices.Equal(got, c.want) || l.Taken() != c.taken {
			t.Errorf("%d: Take: %q, Taken %d", i, got, l.Taken())
		}
		if got := l.Take(); len(got) != 0 || l.Taken() != c.taken {
			t.Errorf("%d: Take again: %q, Taken %d", i, got, l.Taken())
		}
	}
}

// P12.2: of one that is nil there is nothing, whatever it is asked.
func TestNilLearn(t *testing.T) {
	var l *learn.Learn
	for _, s := range []int{math.MinInt, -1, 0, 1, 4095, 4096, math.MaxInt} {
		for _, val := range [][]byte{nil, []byte("a"), make([]byte, most+1)} {
			if e := l.Put(s, val); e != api.ErrNone {
				t.Errorf("Put(%d): %v", s, e)
			}
		}
		if val, is := l.Get(s); is || len(val) != 0 {
			t.Errorf("Get(%d): %q, %t", s, val, is)
		}
		if got := l.Missing(s); len(got) != 0 {
			t.Errorf("Missing(%d): %v", s, got)
		}
	}
	if got := l.Take(); len(got) != 0 || l.Taken() != 0 || l.Frontier() != 0 || l.Top() != 0 {
		t.Errorf("Take: %q, Taken %d, Frontier %d, Top %d", got, l.Taken(), l.Frontier(), l.Top())
	}
}

// P12.1, P12.2: all rows of five steps, each of them a Put of one of four slots with one of two values, or a Take.
func TestAllRows(t *testing.T) {
	slots, ends := []int{-1, 0, 1, 2, 3, 4}, []int{-1, 0, 1, 2, 3, 4, 5}
	steps := 4*2 + 1
	for row := range steps * steps * steps * steps * steps {
		l, m := learn.New(), empty()
		for range 5 {
			step := row % steps
			row /= steps
			if step == steps-1 {
				takes(t, l, m)
			} else {
				puts(t, l, m, step/2, strings.Repeat("v", step%2))
			}
		}
		same(t, l, m, slots, ends)
	}
}

// P12.1, P12.2: by chance, in any order of calls, at the edges of all that is handed in.
func TestByChance(t *testing.T) {
	rnd := rand.New(rand.NewSource(1))
	for range 60 {
		l, m := learn.New(), empty()
		within := 1 + rnd.Intn(40)
		slot := func() int {
			if rnd.Intn(20) == 0 {
				return []int{math.MinInt, -1, 4094, 4095, 4096, math.MaxInt}[rnd.Intn(6)]
			}
			return rnd.Intn(within)
		}
		for range 120 {
			val := strings.Repeat(string(rune('a'+rnd.Intn(2))), rnd.Intn(2))
			if rnd.Intn(30) == 0 {
				val = strings.Repeat("x", most+rnd.Intn(2))
			}
			puts(t, l, m, slot(), val)
			if rnd.Intn(4) == 0 {
				takes(t, l, m)
			}
			same(t, l, m, []int{slot(), slot()}, []int{slot(), slot()})
		}
	}
}

// R2: nil and empty values are the same.
func TestNilAndEmpty(t *testing.T) {
	l := learn.New()
	for slot, first := range [][]byte{nil, {}} {
		for _, val := range [][]byte{first, nil, {}} {
			if e := l.Put(slot, val); e != api.OK {
				t.Errorf("Put(%d) of an empty value: %v", slot, e)
			}
		}
		if val, is := l.Get(slot); !is || len(val) != 0 {
			t.Errorf("Get(%d): %q, %t", slot, val, is)
		}
	}
	if got := texts(l.Take()); !slices.Equal(got, []string{"", ""}) {
		t.Errorf("Take: %q", got)
	}
}

// R3: what is handed in stays as it is, and is shared with nothing; what is told is the caller's own.
func TestOwn(t *testing.T) {
	l := learn.New()
	in := []byte("abcdef")
	for s := range 3 {
		l.Put(s, in[2*s:2*s+2])
		l.Put(s, in[2*s:2*s+2])
	}
	if string(in) != "abcdef" {
		t.Errorf("handed in, values became %q", in)
	}
	copy(in, "------")
	got, _ := l.Get(1)
	if string(got) != "cd" {
		t.Errorf("a value became %q", got)
	}
	got[0], got = '+', append(got, '+')
	taken := l.Take()
	if !slices.Equal(texts(taken), []string{"ab", "cd", "ef"}) {
		t.Errorf("values became %q", taken)
	}
	for i := range taken {
		taken[i] = append(taken[i], '*', '*')
		copy(taken[i], "****")
	}
	for s, want := range []string{"ab", "cd", "ef"} {
		if val, is := l.Get(s); !is || string(val) != want {
			t.Errorf("Get(%d) became %q, %t", s, val, is)
		}
		if e := l.Put(s, []byte(want)); e != api.OK {
			t.Errorf("Put(%d) once more: %v", s, e)
		}
	}
	missing := l.Missing(6)
	clear(missing)
	if again := l.Missing(6); !slices.Equal(again, []int{3, 4, 5}) {
		t.Errorf("Missing(6) became %v", again)
	}
}

// R4: learners beside each other know nothing of each other, and one that is only asked answers all alike.
func TestBeside(t *testing.T) {
	asked := learn.New()
	asked.Put(0, []byte("a"))
	asked.Put(2, []byte("c"))
	var group sync.WaitGroup
	for i := range 8 {
		group.Go(func() {
			l, mine := learn.New(), []byte{byte(i)}
			for s := range 200 {
				l.Put(s, mine)
				val, is := asked.Get(2)
				if !is || string(val) != "c" || asked.Frontier() != 1 || asked.Top() != 3 || asked.Taken() != 0 || !slices.Equal(asked.Missing(4), []int{1, 3}) {
					t.Errorf("Get(2): %q, %t, Missing(4): %v", val, is, asked.Missing(4))
					return
				}
			}
			for _, val := range l.Take() {
				if !bytes.Equal(val, mine) {
					t.Errorf("learner %d took %v", i, val)
					return
				}
			}
		})
	}
	group.Wait()
}
