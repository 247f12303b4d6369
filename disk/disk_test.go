package disk_test

import (
	"bytes"
	"math"
	"math/rand"
	"slices"
	"strings"
	"sync"
	"testing"

	"agio/api"
	"agio/disk"
)

const room = 1 << 20

// row is n bytes that are the same in every run.
func row(seed int64, n int) []byte {
	b := make([]byte, n)
	rand.New(rand.NewSource(seed)).Read(b)
	return b
}

// is tells unless a disk has these bytes, so many of them synced.
func is(t *testing.T, what string, d *disk.Disk, want string, synced int) {
	t.Helper()
	b, n := d.Bytes(), d.Synced()
	if string(b) == want && n == synced {
		return
	}
	if len(b) > 50 || len(want) > 50 {
		t.Fatalf("%s: %d bytes, %d synced, not %d bytes, %d synced", what, len(b), n, len(want), synced)
	}
	t.Fatalf("%s: %q, %d synced, not %q, %d synced", what, b, n, want, synced)
}

// answers tells unless a call answered that.
func answers(t *testing.T, what string, got, want api.Errno) {
	t.Helper()
	if got != want {
		t.Fatalf("%s: %v, not %v", what, got, want)
	}
}

// with is a disk of some bytes that are synced, and some behind them that aren't.
func with(t *testing.T, synced, behind string) *disk.Disk {
	t.Helper()
	d := disk.New()
	answers(t, "Append", d.Append([]byte(synced)), api.OK)
	d.Sync()
	answers(t, "Append behind", d.Append([]byte(behind)), api.OK)
	is(t, "with", d, synced+behind, len(synced))
	return d
}

// P6.1: the example of the chapter.
func TestExample(t *testing.T) {
	d := disk.New()
	answers(t, "Append(ab)", d.Append([]byte("ab")), api.OK)
	d.Sync()
	answers(t, "Append(cd)", d.Append([]byte("cd")), api.OK)
	d.Crash(1)
	is(t, "Crash(1)", d, "abc", 3)
}

// P6.1: a new disk has no bytes, and all that is done to none of them.
func TestNew(t *testing.T) {
	d := disk.New()
	is(t, "New", d, "", 0)
	d.Sync()
	is(t, "Sync", d, "", 0)
	for _, keep := range []int{-1, 0, 1, math.MaxInt} {
		d.Crash(keep)
		is(t, "Crash", d, "", 0)
	}
	answers(t, "Cut(0)", d.Cut(0), api.OK)
	answers(t, "Cut(1)", d.Cut(1), api.ErrArg)
	answers(t, "Append of nothing", d.Append(nil), api.OK)
	answers(t, "Install of nothing", d.Install(nil), api.OK)
	is(t, "still new", d, "", 0)
}

// P6.1: Append lays bytes behind all, and syncs none.
func TestAppend(t *testing.T) {
	d, want := disk.New(), ""
	for i := range 300 {
		b := row(int64(i), i%7)
		answers(t, "Append", d.Append(b), api.OK)
		want += string(b)
		is(t, "Append", d, want, 0)
	}
	d = with(t, "ab", "cd")
	answers(t, "Append", d.Append([]byte("ef")), api.OK)
	is(t, "Append behind others", d, "abcdef", 2)
}

// P6.1: Append has ErrFull from the byte on that would be one too many, and changes nothing.
func TestAppendFull(t *testing.T) {
	all := string(row(1, room))
	for _, there := range []int{0, 1, 2, 1000, room / 2, room - 2, room - 1, room} {
		left := room - there
		d := with(t, all[:there/2], all[there/2:there])
		for _, more := range []int{left + 1, left + 2, left + 1000, room + 1, 2 * room, 1 << 24} {
			answers(t, "Append of too many", d.Append(make([]byte, more)), api.ErrFull)
			is(t, "Append of too many", d, all[:there], there/2)
		}
		answers(t, "Append of none", d.Append(nil), api.OK)
		answers(t, "Append up to the end", d.Append([]byte(all[there:])), api.OK)
		is(t, "Append up to the end", d, all, there/2)
		answers(t, "Append to a full one", d.Append([]byte{0}), api.ErrFull)
		answers(t, "Append of none to a full one", d.Append([]byte{}), api.OK)
		is(t, "full", d, all, there/2)
	}
}

// P6.1: what was lost or cut leaves its room to others.
func TestRoomAgain(t *testing.T) {
	all := string(row(2, room))
	d := with(t, all[:10], all[10:])
	answers(t, "Append to a full one", d.Append([]byte("x")), api.ErrFull)
	d.Crash(5)
	answers(t, "Append of one too many", d.Append([]byte(all[14:])), api.ErrFull)
	answers(t, "Append of what is lost", d.Append([]byte(all[15:])), api.OK)
	is(t, "Append of what is lost", d, all, 15)
	answers(t, "Cut", d.Cut(room-3), api.OK)
	answers(t, "Append of one too many", d.Append([]byte("abcd")), api.ErrFull)
	answers(t, "Append of what is cut", d.Append([]byte("abc")), api.OK)
	is(t, "Append of what is cut", d, all[:room-3]+"abc", 15)
}

// P6.1: Sync: all bytes are synced, and stay as they are.
func TestSync(t *testing.T) {
	d := with(t, "", "abc")
	d.Sync()
	is(t, "Sync", d, "abc", 3)
	d.Sync()
	is(t, "Sync again", d, "abc", 3)
	d = with(t, "abc", "de")
	d.Sync()
	is(t, "Sync behind others", d, "abcde", 5)
	d.Crash(0)
	is(t, "Crash behind Sync", d, "abcde", 5)
}

// P6.1: Crash: of the bytes that aren't synced only the first keep stay, and all that are left are synced.
func TestCrash(t *testing.T) {
	for _, c := range []struct {
		synced, behind string
		keep           int
		want           string
	}{
		{"", "", 0, ""}, {"", "", 1, ""}, {"", "", -1, ""},
		{"", "abc", 0, ""}, {"", "abc", 1, "a"}, {"", "abc", 2, "ab"}, {"", "abc", 3, "abc"}, {"", "abc", 4, "abc"},
		{"ab", "", 0, "ab"}, {"ab", "", 1, "ab"}, {"ab", "", -1, "ab"}, {"ab", "", 2, "ab"},
		{"ab", "cde", 0, "ab"}, {"ab", "cde", 1, "abc"}, {"ab", "cde", 2, "abcd"}, {"ab", "cde", 3, "abcde"}, {"ab", "cde", 4, "abcde"}, {"ab", "cde", 5, "abcde"}, {"ab", "cde", 6, "abcde"},
		{"ab", "cde", -1, "ab"}, {"ab", "cde", -2, "ab"}, {"ab", "cde", -3, "ab"}, {"ab", "cde", math.MinInt, "ab"}, {"ab", "cde", math.MinInt + 1, "ab"},
		{"ab", "cde", math.MaxInt, "abcde"}, {"ab", "cde", math.MaxInt - 1, "abcde"}, {"ab", "cde", math.MaxInt32, "abcde"}, {"ab", "cde", 1 << 20, "abcde"},
	} {
		d := with(t, c.synced, c.behind)
		d.Crash(c.keep)
		is(t, "Crash", d, c.want, len(c.want))
		d.Crash(0)
		is(t, "Crash again", d, c.want, len(c.want))
	}
}

// P6.1: Crash at each number, of many bytes.
func TestCrashAtEach(t *testing.T) {
	all := string(row(3, 200))
	for _, synced := range []int{0, 1, 100, 199, 200} {
		for keep := -5; keep <= 205; keep++ {
			d := with(t, all[:synced], all[synced:])
			d.Crash(keep)
			left := min(synced+max(keep, 0), 200)
			is(t, "Crash", d, all[:left], left)
		}
	}
}

// P6.1: Cut: only the first n are left, of which as many are synced as were, but no more than n.
func TestCut(t *testing.T) {
	const all = "abcdefgh"
	for synced := range len(all) + 1 {
		for n := range len(all) + 1 {
			d := with(t, all[:synced], all[synced:])
			answers(t, "Cut", d.Cut(n), api.OK)
			is(t, "Cut", d, all[:n], min(synced, n))
			d.Crash(0)
			is(t, "Crash behind Cut", d, all[:min(synced, n)], min(synced, n))
		}
	}
}

// P6.1: Cut has ErrArg of a number below 0 or above how many bytes there are, and changes nothing.
func TestCutWhereNoneIs(t *testing.T) {
	for _, all := range []string{"", "a", "ab", "abcdefgh"} {
		for synced := range len(all) + 1 {
			d := with(t, all[:synced], all[synced:])
			for _, n := range []int{-1, -2, -len(all) - 1, math.MinInt, len(all) + 1, len(all) + 2, room, math.MaxInt32, math.MaxInt} {
				answers(t, "Cut", d.Cut(n), api.ErrArg)
				is(t, "Cut", d, all, synced)
			}
		}
	}
	d := with(t, "abcd", "")
	answers(t, "Cut", d.Cut(2), api.OK)
	answers(t, "Cut beyond what is left", d.Cut(3), api.ErrArg)
	is(t, "Cut beyond what is left", d, "ab", 2)
}

// P6.1: what is appended behind a cut or a crash stands there in place of what was, and isn't synced.
func TestAppendBehindWhatIsLeft(t *testing.T) {
	d := with(t, "abc", "def")
	answers(t, "Cut", d.Cut(2), api.OK)
	answers(t, "Append", d.Append([]byte("X")), api.OK)
	is(t, "behind a cut", d, "abX", 2)
	answers(t, "Append", d.Append([]byte("YZ")), api.OK)
	d.Crash(2)
	is(t, "behind a crash", d, "abXY", 4)
	answers(t, "Append", d.Append([]byte("1")), api.OK)
	is(t, "behind a crash", d, "abXY1", 4)
}

// P6.1: Install: the bytes are those, all of them synced, whatever was there.
func TestInstall(t *testing.T) {
	for _, b := range []string{"", "x", "xyz", string(row(4, 5000)), string(row(5, room-1)), string(row(6, room))} {
		for _, d := range []*disk.Disk{disk.New(), with(t, "", "ab"), with(t, "ab", ""), with(t, "ab", "cdefgh"), with(t, string(row(7, room)), "")} {
			answers(t, "Install", d.Install([]byte(b)), api.OK)
			is(t, "Install", d, b, len(b))
			d.Crash(0)
			is(t, "Crash behind Install", d, b, len(b))
		}
	}
	d := with(t, "ab", "cd")
	answers(t, "Install", d.Install([]byte("x")), api.OK)
	answers(t, "Append", d.Append([]byte("y")), api.OK)
	is(t, "Append behind Install", d, "xy", 1)
}

// P6.1: Install has ErrFull of more than 2^20, and changes nothing; what is there takes none of its room.
func TestInstallFull(t *testing.T) {
	for _, n := range []int{room + 1, room + 2, 2 * room, 1 << 24} {
		d := with(t, "ab", "cd")
		answers(t, "Install of too many", d.Install(make([]byte, n)), api.ErrFull)
		is(t, "Install of too many", d, "abcd", 2)
	}
	all := string(row(8, room))
	d := with(t, "", all)
	answers(t, "Install of too many", d.Install(make([]byte, room+1)), api.ErrFull)
	is(t, "Install of too many", d, all, 0)
	answers(t, "Install of as many", d.Install(make([]byte, room)), api.OK)
	is(t, "Install of as many", d, strings.Repeat("\x00", room), room)
}

// P6.2: of a Disk that is nil: ErrNone, nothing, 0; Sync and Crash do nothing.
func TestNilDisk(t *testing.T) {
	var d *disk.Disk
	for range 2 {
		for _, b := range [][]byte{nil, {}, []byte("a"), make([]byte, room), make([]byte, room+1)} {
			answers(t, "Append", d.Append(b), api.ErrNone)
			answers(t, "Install", d.Install(b), api.ErrNone)
		}
		for _, n := range []int{0, 1, -1, room + 1, math.MaxInt, math.MinInt} {
			answers(t, "Cut", d.Cut(n), api.ErrNone)
			d.Crash(n)
		}
		d.Sync()
		is(t, "nil", d, "", 0)
	}
}

// model is a disk as the chapter's words have it: what is synced, and what isn't.
type model struct{ synced, behind string }

func (m *model) all() string { return m.synced + m.behind }

func (m *model) append(b []byte) api.Errno {
	if len(m.all())+len(b) > room {
		return api.ErrFull
	}
	m.behind += string(b)
	return api.OK
}

func (m *model) sync() { m.synced, m.behind = m.all(), "" }

func (m *model) crash(keep int) {
	if keep < 0 {
		m.behind = ""
	} else if keep < len(m.behind) {
		m.behind = m.behind[:keep]
	}
	m.sync()
}

func (m *model) cut(n int) api.Errno {
	switch {
	case n < 0 || n > len(m.all()):
		return api.ErrArg
	case n <= len(m.synced):
		m.synced, m.behind = m.synced[:n], ""
	default:
		m.behind = m.behind[:n-len(m.synced)]
	}
	return api.OK
}

func (m *model) install(b []byte) api.Errno {
	if len(b) > room {
		return api.ErrFull
	}
	m.synced, m.behind = string(b), ""
	return api.OK
}

// both does one thing, by chance, to a disk and to its model.
func both(t *testing.T, r *rand.Rand, d *disk.Disk, m *model, most int) {
	t.Helper()
	switch r.Intn(12) {
	case 0, 1, 2, 3, 4:
		b := row(r.Int63(), r.Intn(most+1))
		answers(t, "Append", d.Append(b), m.append(b))
	case 5, 6:
		d.Sync()
		m.sync()
	case 7, 8:
		n := r.Intn(len(m.behind)+5) - 2
		d.Crash(n)
		m.crash(n)
	case 9, 10:
		n := r.Intn(len(m.all())+5) - 2
		answers(t, "Cut", d.Cut(n), m.cut(n))
	default:
		b := row(r.Int63(), r.Intn(most+1))
		answers(t, "Install", d.Install(b), m.install(b))
	}
	is(t, "by chance", d, m.all(), len(m.synced))
}

// P6.1, P6.2: all calls in any order, against the chapter's words.
func TestInAnyOrder(t *testing.T) {
	for seed := range int64(300) {
		r, d, m := rand.New(rand.NewSource(seed)), disk.New(), &model{}
		for range 200 {
			both(t, r, d, m, 20)
		}
	}
}

// P6.1, P6.2: and of so many bytes that a disk is full at times.
func TestInAnyOrderWhenFull(t *testing.T) {
	for seed := range int64(8) {
		r, d, m := rand.New(rand.NewSource(seed)), disk.New(), &model{}
		for range 60 {
			both(t, r, d, m, room+room/4)
		}
	}
}

// P6.3: all that were once synced stay at the beginning, through all appends, syncs and crashes; and what a crash leaves is a beginning of what was there.
func TestSyncedStays(t *testing.T) {
	for seed := range int64(300) {
		r, d := rand.New(rand.NewSource(seed)), disk.New()
		var synced, without []byte // without is what would be there without a crash since the bytes were synced last
		for range 200 {
			switch r.Intn(4) {
			case 0, 1:
				b := row(r.Int63(), r.Intn(9))
				answers(t, "Append", d.Append(b), api.OK)
				without = append(without, b...)
			case 2:
				d.Sync()
			default:
				d.Crash(r.Intn(16) - 4)
			}
			b, n := d.Bytes(), d.Synced()
			if !bytes.HasPrefix(b, synced) || n < len(synced) {
				t.Fatalf("seed %d: %q, %d synced, was synced up to %q", seed, b, n, synced)
			}
			if !bytes.HasPrefix(without, b) {
				t.Fatalf("seed %d: %q is no beginning of %q", seed, b, without)
			}
			if n == len(b) {
				synced, without = b, slices.Clone(b)
			} else if len(b) != len(without) {
				t.Fatalf("seed %d: %q, without a crash %q", seed, b, without)
			}
		}
	}
}

// P6.3: one disk that crashes and one that doesn't: what the first has is a beginning of what the other has.
func TestBesideOneWithoutCrash(t *testing.T) {
	for seed := range int64(200) {
		r, a, b := rand.New(rand.NewSource(seed)), disk.New(), disk.New()
		for range r.Intn(20) {
			more := row(r.Int63(), r.Intn(9))
			answers(t, "Append", a.Append(more), api.OK)
			answers(t, "Append", b.Append(more), api.OK)
			if r.Intn(3) == 0 {
				a.Sync()
				b.Sync()
			}
		}
		synced := a.Bytes()[:a.Synced()]
		for range 1 + r.Intn(3) {
			a.Crash(r.Intn(40) - 5)
			if !bytes.HasPrefix(b.Bytes(), a.Bytes()) || !bytes.HasPrefix(a.Bytes(), synced) {
				t.Fatalf("seed %d: %q beside %q, %q synced", seed, a.Bytes(), b.Bytes(), synced)
			}
		}
	}
}

// R3: what is handed in stays as it is, what stands behind it too, and shares nothing with the disk.
func TestHandedIn(t *testing.T) {
	b := row(9, 100)
	was := slices.Clone(b)
	for _, lay := range []func(*disk.Disk, []byte) api.Errno{(*disk.Disk).Append, (*disk.Disk).Install} {
		d := disk.New()
		answers(t, "lay", lay(d, b[:50]), api.OK)
		for range 10 {
			answers(t, "Append", d.Append([]byte("more")), api.OK)
		}
		d.Cut(30)
		d.Append([]byte("other"))
		if !bytes.Equal(b, was) {
			t.Fatal("what is handed in is changed")
		}
		want := string(was[:30]) + "other"
		fill(b)
		if string(d.Bytes()) != want {
			t.Fatal("the disk shares what is handed in")
		}
		copy(b, was)
	}
}

// P6.2, R3: what is told is the caller's own: it doesn't hang on what is done later, nor the disk on what is done to it.
func TestToldIsOwn(t *testing.T) {
	d := with(t, "abc", "def")
	first, second := d.Bytes(), d.Bytes()
	fill(first[:cap(first)])
	is(t, "what was told is written over", d, "abcdef", 3)
	if string(second) != "abcdef" {
		t.Fatal("what is told twice is shared")
	}
	for _, then := range []func(){
		func() { d.Append([]byte("ghi")) },
		func() { d.Crash(1) },
		func() { d.Append([]byte("XYZ")) },
		func() { d.Cut(1) },
		func() { d.Append([]byte("123456")) },
		func() { d.Install([]byte("other!")) },
		func() { d.Cut(0) },
		func() { d.Append([]byte("again!")) },
	} {
		told := d.Bytes()
		was := string(told)
		then()
		if string(told) != was {
			t.Fatalf("what was told, %q, is now %q", was, told)
		}
		now := string(d.Bytes())
		fill(told[:cap(told)])
		if string(d.Bytes()) != now {
			t.Fatal("the disk shares what it told")
		}
	}
	if string(second) != "abcdef" {
		t.Fatal("what was told first is changed")
	}
}

func fill(b []byte) {
	for i := range b {
		b[i] = 0xAA
	}
}

// R3: a disk may be given what it told.
func TestItsOwn(t *testing.T) {
	d := with(t, "abc", "d")
	answers(t, "Append", d.Append(d.Bytes()), api.OK)
	is(t, "Append of its own", d, "abcdabcd", 3)
	answers(t, "Install", d.Install(d.Bytes()[2:6]), api.OK)
	is(t, "Install of its own", d, "cdab", 4)
}

// R2: nil is empty.
func TestNilIsEmpty(t *testing.T) {
	for _, b := range [][]byte{nil, {}} {
		d := with(t, "ab", "cd")
		answers(t, "Append", d.Append(b), api.OK)
		is(t, "Append of nothing", d, "abcd", 2)
		answers(t, "Install", d.Install(b), api.OK)
		is(t, "Install of nothing", d, "", 0)
		answers(t, "Append", d.Append([]byte("x")), api.OK)
		is(t, "Append behind nothing", d, "x", 0)
	}
}

// R4: disks don't touch each other, those that are asked at the same time either.
func TestDisksOfTheirOwn(t *testing.T) {
	a, b := with(t, "ab", "cd"), with(t, "xy", "z")
	a.Sync()
	b.Crash(0)
	is(t, "one", a, "abcd", 4)
	is(t, "another", b, "xy", 2)
	var all sync.WaitGroup
	for seed := range int64(8) {
		all.Go(func() {
			d, m := disk.New(), &model{}
			for i := range 300 {
				more := row(seed, i%11)
				if d.Append(more) != m.append(more) {
					t.Error("Append beside others")
				}
				if i%3 == 0 {
					d.Crash(i % 5)
					m.crash(i % 5)
				}
				if string(d.Bytes()) != m.all() || d.Synced() != len(m.synced) {
					t.Error("another disk beside others")
				}
			}
		})
	}
	all.Wait()
}

// P1: a disk that is filled byte by byte, and emptied so.
func TestByteByByte(t *testing.T) {
	all := row(10, room)
	d := disk.New()
	for i := range all {
		answers(t, "Append", d.Append(all[i:i+1]), api.OK)
	}
	is(t, "filled", d, string(all), 0)
	answers(t, "Append", d.Append([]byte{0}), api.ErrFull)
	for n := room; n >= 0; n-- {
		answers(t, "Cut", d.Cut(n), api.OK)
	}
	is(t, "emptied", d, "", 0)
}
