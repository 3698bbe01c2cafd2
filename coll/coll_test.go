package coll

import (
	"math"
	"math/big"
	"math/rand"
	"slices"
	"testing"

	"porpoise/batch"
)

// The greatest time, the longest window, and the most arguments, as the document has them.
const greatest, longest, widest = math.MaxUint64, 1 << 40, 4

// ends are numbers at their worst, as an id, as an argument and as a most.
func ends() []int {
	return []int{
		math.MinInt, math.MinInt + 1, math.MinInt32, -1000, -2, -1, 0, 1, 2, 3, 4, 5, 99, 100, 1000, 1001,
		math.MaxInt32, 1 << 40, math.MaxInt - 1, math.MaxInt,
	}
}

// times are numbers at their worst, as a now and as a window.
func times() []uint64 {
	return []uint64{
		0, 1, 2, 9, 10, 11, 1<<32 - 1, 1 << 32, longest - 1, longest, longest + 1,
		1<<63 - 1, 1 << 63, greatest - longest - 1, greatest - longest, greatest - longest + 1, greatest - 1, greatest,
	}
}

// model is the chapter's words, over one list of those who came to the window that is open.
type model struct {
	window uint64
	most   int
	open   bool
	end    *big.Int // without an end of its own
	came   []want
}

// want is a command, and its argument.
type want struct{ id, arg int }

// batchOf is the batch of some commands, in turn.
func batchOf(came []want) batch.Batch {
	var b batch.Batch
	for _, w := range came {
		at := slices.Index(b.Args, w.arg)
		if at < 0 {
			at = len(b.Args)
			b.Args = append(b.Args, w.arg)
		}
		b.Members = append(b.Members, batch.Member{Id: w.id, At: at})
	}
	return b
}

func (m *model) add(now uint64, id, arg int) Step {
	var s Step
	if !m.open {
		m.open, m.came = true, nil
		m.end = new(big.Int).Add(new(big.Int).SetUint64(now), new(big.Int).SetUint64(m.window))
		s.Opened, s.Due = true, greatest
		if m.end.IsUint64() {
			s.Due = m.end.Uint64()
		}
	}
	m.came = append(m.came, want{id, arg})
	if b := batchOf(m.came); len(b.Args) == m.most {
		s.Ready, s.B = true, b
		m.open = false
	}
	return s
}

func (m *model) expire(now uint64) (batch.Batch, bool) {
	// The greatest time is behind every end that went over.
	over := m.open && (now == greatest || new(big.Int).SetUint64(now).Cmp(m.end) >= 0)
	if !over {
		return batch.Batch{}, false
	}
	m.open = false
	return batchOf(m.came), true
}

// same tells whether two batches are alike; nil and empty lists are (R2).
func same(a, b batch.Batch) bool {
	return slices.Equal(a.Args, b.Args) && slices.Equal(a.Members, b.Members)
}

func copied(b batch.Batch) batch.Batch {
	return batch.Batch{Args: append([]int(nil), b.Args...), Members: append([]batch.Member(nil), b.Members...)}
}

// spoil writes over all that a caller reaches by a batch, also behind its lengths.
func spoil(b batch.Batch) {
	for place := range b.Args[:cap(b.Args)] {
		b.Args[:cap(b.Args)][place] = -777
	}
	for place := range b.Members[:cap(b.Members)] {
		b.Members[:cap(b.Members)][place] = batch.Member{Id: -777, At: -777}
	}
}

// members are commands by their ids and places, two numbers each.
func members(l ...int) []batch.Member {
	var ms []batch.Member
	for pair := range slices.Chunk(l, 2) {
		ms = append(ms, batch.Member{Id: pair[0], At: pair[1]})
	}
	return ms
}

func made(t *testing.T, window uint64, most int) *Coll {
	t.Helper()
	c := New(window, most)
	if c == nil {
		t.Fatalf("New(%d, %d) is nil", window, most)
	}
	isOpen(t, c, false)
	return c
}

func isOpen(t *testing.T, c *Coll, want bool) {
	t.Helper()
	for range 2 { // asked, it is as it was
		if got := c.Open(); got != want {
			t.Fatalf("Open() = %t, want %t", got, want)
		}
	}
}

// adds holds a whole step against what it should be, and whether a window is open behind it.
func adds(t *testing.T, c *Coll, now uint64, id, arg int, want Step) Step {
	t.Helper()
	got := c.Add(now, id, arg)
	if got.Opened != want.Opened || got.Ready != want.Ready || got.Due != want.Due || !same(got.B, want.B) {
		t.Fatalf("Add(%d, %d, %d) = %+v, want %+v", now, id, arg, got, want)
	}
	isOpen(t, c, c != nil && !want.Ready)
	return got
}

func opens(t *testing.T, c *Coll, now uint64, id, arg int, due uint64) {
	t.Helper()
	isOpen(t, c, false)
	adds(t, c, now, id, arg, Step{Opened: true, Due: due})
}

func joins(t *testing.T, c *Coll, now uint64, id, arg int) {
	t.Helper()
	isOpen(t, c, true)
	adds(t, c, now, id, arg, Step{})
}

func expires(t *testing.T, c *Coll, now uint64, want batch.Batch) batch.Batch {
	t.Helper()
	isOpen(t, c, true)
	got, ok := c.Expire(now)
	if !ok || !same(got, want) {
		t.Fatalf("Expire(%d) = %+v, %t, want %+v, true", now, got, ok, want)
	}
	isOpen(t, c, false)
	return got
}

// stays holds that nothing expires, and that a window is open then as it was.
func stays(t *testing.T, c *Coll, now uint64) {
	t.Helper()
	was := c.Open()
	if got, ok := c.Expire(now); ok || !same(got, batch.Batch{}) {
		t.Fatalf("Expire(%d) = %+v, %t, want nothing", now, got, ok)
	}
	isOpen(t, c, was)
}

// addsAsModel and expiresAsModel do one call of both.
func addsAsModel(t *testing.T, c *Coll, m *model, now uint64, id, arg int) Step {
	t.Helper()
	s := adds(t, c, now, id, arg, m.add(now, id, arg))
	isOpen(t, c, m.open)
	return s
}

func expiresAsModel(t *testing.T, c *Coll, m *model, now uint64) {
	t.Helper()
	isOpen(t, c, m.open)
	if want, ok := m.expire(now); ok {
		expires(t, c, now, want)
	} else {
		stays(t, c, now)
	}
}

// The chapter's example: two arguments at most, and the second one makes the batch ready.
func TestTheExample(t *testing.T) {
	c := made(t, 10, 2)
	opens(t, c, 5, 1, 7, 15)
	adds(t, c, 6, 2, 8, Step{Ready: true, B: batch.Batch{Args: []int{7, 8}, Members: members(1, 0, 2, 1)}})
	stays(t, c, 15)
}

// P14.1: of a window of 1 to 2^40, and a most of 1 to 4; else nil.
func TestNew(t *testing.T) {
	for _, window := range times() {
		for _, most := range append(ends(), -5, -4, -3, 6, 7, 8, 1<<32+1, 1<<32+4, math.MinInt+4) {
			want := window >= 1 && window <= longest && most >= 1 && most <= widest
			c := New(window, most)
			if (c != nil) != want {
				t.Fatalf("New(%d, %d): %t, want %t", window, most, c != nil, want)
			}
			isOpen(t, c, false)
			stays(t, c, 0)
			stays(t, c, greatest)
		}
	}
}

// P14.1: whether a window is open, through the life of some.
func TestOpen(t *testing.T) {
	c := made(t, 3, 2)
	for round := range uint64(4) {
		now := 100 * round
		isOpen(t, c, false)
		c.Add(now, 1, 5)
		isOpen(t, c, true)
		c.Add(now, 2, 5)
		isOpen(t, c, true)
		c.Expire(now + 2)
		isOpen(t, c, true)
		c.Expire(now + 3)
		isOpen(t, c, false)
		c.Add(now+4, 3, 5)
		isOpen(t, c, true)
		c.Add(now+4, 4, 6)
		isOpen(t, c, false)
	}
}

// P14.2: the first one opens the window, until now and window, together; with an argument that isn't there, or is, it is joined, and all else of that step is zero.
func TestTheFirstOneOpens(t *testing.T) {
	for _, window := range []uint64{1, 2, 10, longest - 1, longest} {
		for most := 2; most <= widest; most++ {
			for _, now := range []uint64{0, 1, 5, longest, 1 << 63} {
				c := made(t, window, most)
				opens(t, c, now, 1, 7, now+window)
				joins(t, c, now, 2, 7)
				for more := range most - 2 {
					joins(t, c, now+uint64(more), 10+more, 20+more)
				}
				expires(t, c, now+window, batch.Batch{
					Args:    append([]int{7}, []int{20, 21}[:most-2]...),
					Members: append(members(1, 0, 2, 0), members(10, 1, 11, 2)[:most-2]...),
				})
			}
		}
	}
}

// P14.2: with a most of 1 each command is ready at once, opened too, with its Due; no window is ever open behind it.
func TestAMostOfOne(t *testing.T) {
	c := made(t, 10, 1)
	for _, now := range []uint64{5, 5, 6, 0, 1000, 15} {
		for _, arg := range []int{7, 7, 8} {
			one := batch.Batch{Args: []int{arg}, Members: members(3, 0)}
			adds(t, c, now, 3, arg, Step{Opened: true, Ready: true, Due: now + 10, B: one})
			stays(t, c, now+10)
			stays(t, c, greatest)
		}
	}
}

// P14.2: the argument that is the last one there may be makes the batch ready; that step has no Due, and isn't Opened.
func TestTheLastArgument(t *testing.T) {
	for most := 2; most <= widest; most++ {
		c := made(t, 10, most)
		b := batch.Batch{Args: []int{70}, Members: members(100, 0)}
		opens(t, c, 5, 100, 70, 15)
		for place := 1; place < most; place++ {
			// Who wants what is there takes no room: neither the first argument, nor the last one.
			joins(t, c, 6, 200, 70)
			joins(t, c, 6, 201, 69+place)
			b.Args = append(b.Args, 70+place)
			b.Members = append(b.Members, members(200, 0, 201, place-1, 100+place, place)...)
			if place < most-1 {
				joins(t, c, 7, 100+place, 70+place)
			}
		}
		adds(t, c, 7, 99+most, 69+most, Step{Ready: true, B: b})
		stays(t, c, 15)
		stays(t, c, greatest)
	}
}

// P14.2: who comes behind a batch that was ready opens another window, of that time, also with an argument that the batch had.
func TestBehindTheLastArgument(t *testing.T) {
	for _, arg := range []int{7, 8, 9} {
		c := made(t, 10, 2)
		opens(t, c, 5, 1, 7, 15)
		adds(t, c, 6, 2, 8, Step{Ready: true, B: batch.Batch{Args: []int{7, 8}, Members: members(1, 0, 2, 1)}})
		opens(t, c, 9, 3, arg, 19)
		stays(t, c, 15)
		stays(t, c, 18)
		expires(t, c, 19, batch.Batch{Args: []int{arg}, Members: members(3, 0)})
	}
}

// P14.2: members play no part in whether a batch is full: very many want one argument, some by the same id.
func TestManyOfOneArgument(t *testing.T) {
	c := made(t, longest, 2)
	opens(t, c, 0, 0, 7, longest)
	b := batch.Batch{Args: []int{7}, Members: members(0, 0)}
	for turn := range 2000 {
		joins(t, c, uint64(turn), turn%700, 7)
		b.Members = append(b.Members, batch.Member{Id: turn % 700})
	}
	stays(t, c, longest-1)
	b.Args, b.Members = []int{7, 6}, append(b.Members, batch.Member{Id: 5, At: 1})
	adds(t, c, 3000, 5, 6, Step{Ready: true, B: b})
}

// P14.2: a window is opened by who comes when none is, and by nothing else: its end stays, whenever others come, also at its end and behind it, as long as it isn't expired.
func TestTheEndStays(t *testing.T) {
	for _, later := range []uint64{0, 19, 20, 29, 30, 31, 1000, greatest} {
		c := made(t, 10, 3)
		opens(t, c, 20, 1, 7, 30)
		joins(t, c, later, 2, 7)
		joins(t, c, later, 3, 8)
		stays(t, c, 29)
		joins(t, c, later, 4, 7)
		expires(t, c, 30, batch.Batch{Args: []int{7, 8}, Members: members(1, 0, 2, 0, 3, 1, 4, 0)})
		opens(t, c, 31, 5, 7, 41)
	}
}

// P14.2: a time that goes back opens a window of that time.
func TestATimeThatGoesBack(t *testing.T) {
	c := made(t, 10, 2)
	opens(t, c, 1000, 1, 7, 1010)
	stays(t, c, 3)
	expires(t, c, 1010, batch.Batch{Args: []int{7}, Members: members(1, 0)})
	opens(t, c, 5, 2, 7, 15)
	stays(t, c, 14)
	joins(t, c, 0, 3, 7)
	stays(t, c, 0)
	expires(t, c, 15, batch.Batch{Args: []int{7}, Members: members(2, 0, 3, 0)})
	opens(t, c, 0, 4, 7, 10)
	expires(t, c, 1000, batch.Batch{Args: []int{7}, Members: members(4, 0)})
	opens(t, c, 999, 5, 7, 1009)
	adds(t, c, 0, 6, 8, Step{Ready: true, B: batch.Batch{Args: []int{7, 8}, Members: members(5, 0, 6, 1)}})
}

// P14.2, P14.3: a now and a window that go over together: the end is the greatest time, which is not ahead of it.
func TestEndsThatGoOver(t *testing.T) {
	one := batch.Batch{Args: []int{7}, Members: members(1, 0)}
	for _, window := range []uint64{1, 2, 10, longest - 1, longest} {
		for _, over := range []uint64{0, 1, window - 1, window} {
			now := greatest - over
			c := made(t, window, 2)
			opens(t, c, now, 1, 7, greatest)
			stays(t, c, greatest-1)
			stays(t, c, window)
			stays(t, c, 0)
			expires(t, c, greatest, one)
			stays(t, c, greatest)

			adds(t, made(t, window, 1), now, 1, 7, Step{Opened: true, Ready: true, Due: greatest, B: one})
		}
		c := made(t, window, 2)
		opens(t, c, greatest-window-1, 1, 7, greatest-1)
		stays(t, c, greatest-2)
		expires(t, c, greatest-1, one)
	}
}

// P14.3: nothing ahead of the end, the batch at it and behind it, and nothing again.
func TestExpire(t *testing.T) {
	b := batch.Batch{Args: []int{7, 8}, Members: members(1, 0, 2, 1, 3, 0)}
	for _, window := range []uint64{1, 2, 10, longest} {
		for _, behind := range []uint64{0, 1, 100, 1 << 63} {
			c := made(t, window, 3)
			stays(t, c, greatest)
			opens(t, c, 50, 1, 7, 50+window)
			joins(t, c, 50, 2, 8)
			joins(t, c, 50, 3, 7)
			for _, ahead := range []uint64{0, 1, window, 49, 50, 49 + window} {
				if ahead < 50+window {
					stays(t, c, ahead)
				}
			}
			expires(t, c, 50+window+behind, b)
			for _, again := range []uint64{0, 50 + window, 50 + window + behind, greatest} {
				stays(t, c, again)
			}
			opens(t, c, 60, 4, 9, 60+window)
			stays(t, c, 59+window)
			expires(t, c, 60+window+behind, batch.Batch{Args: []int{9}, Members: members(4, 0)})
		}
	}
}

// P14.3: of a Coll that is nil: the zero Step, nothing and false, whatever is asked, and it stays nil.
func TestNil(t *testing.T) {
	for _, c := range []*Coll{nil, New(0, 1), New(longest+1, 4), New(1, 0), New(1, 5), New(1, -1)} {
		for _, now := range times() {
			for _, n := range ends() {
				adds(t, c, now, n, 7, Step{})
				adds(t, c, now, 1, n, Step{})
			}
			stays(t, c, now)
			isOpen(t, c, false)
		}
		if c != nil {
			t.Fatalf("what may not be is %+v", *c)
		}
	}
}

// P1: any number is an id, an argument and a now, of any Coll.
func TestAnyNumbers(t *testing.T) {
	for _, window := range []uint64{1, longest} {
		for most := 1; most <= widest; most++ {
			for _, now := range times() {
				for _, n := range ends() {
					c, m := made(t, window, most), &model{window: window, most: most}
					for _, id := range []int{n, 1, n} {
						addsAsModel(t, c, m, now, id, n)
						addsAsModel(t, c, m, now, n, id)
						for _, later := range times() {
							expiresAsModel(t, c, m, later)
						}
					}
				}
			}
		}
	}
}

// P14.2: which argument is there is told by the whole number.
func TestArgumentsAreApart(t *testing.T) {
	for _, arg := range ends() {
		for _, other := range ends() {
			c, m := made(t, 5, 2), &model{window: 5, most: 2}
			addsAsModel(t, c, m, 0, 3, arg)
			s := addsAsModel(t, c, m, 0, 3, other)
			if s.Ready != (arg != other) {
				t.Fatalf("behind %d comes %d: %+v", arg, other, s)
			}
		}
	}
}

// R4: what happens to one Coll plays no part at another one, alike or not.
func TestEachIsApart(t *testing.T) {
	type pair struct {
		c *Coll
		m *model
	}
	var pairs []pair
	for range 2 {
		for most := 1; most <= widest; most++ {
			pairs = append(pairs, pair{made(t, 10, most), &model{window: 10, most: most}})
		}
	}
	for turn := range 2000 {
		p := pairs[turn*turn%11%len(pairs)]
		addsAsModel(t, p.c, p.m, uint64(turn), turn, turn%5)
		p = pairs[turn%len(pairs)]
		expiresAsModel(t, p.c, p.m, uint64(turn))
		for _, p := range pairs {
			isOpen(t, p.c, p.m.open)
		}
	}
}

// R3: what was told is the caller's own: changed, it changes neither what is open nor what else was told; nor is it changed by what comes later.
func TestToldIsTheCallersOwn(t *testing.T) {
	for most := 1; most <= widest; most++ {
		for seed := range int64(40) {
			chance := rand.New(rand.NewSource(seed))
			c, m := made(t, 6, most), &model{window: 6, most: most}
			var told, was []batch.Batch
			for turn := range 120 {
				now, arg := uint64(turn), chance.Intn(most+1)
				s := addsAsModel(t, c, m, now, turn, arg)
				spoilt := s.B
				if over, ok := m.expire(now); ok {
					spoilt = expires(t, c, now, over)
				}
				if chance.Intn(2) == 0 {
					spoil(spoilt)
					continue
				}
				told, was = append(told, spoilt), append(was, copied(spoilt))
			}
			for place := range told {
				if !same(told[place], was[place]) {
					t.Fatalf("most %d, seed %d: %+v became %+v", most, seed, was[place], told[place])
				}
			}
		}
	}
}

// P14.1 to P14.3: all ways of six calls, of a small window and each most.
func TestAllShortWays(t *testing.T) {
	const depth = 6
	moves := []func(t *testing.T, c *Coll, m *model, id int){
		func(t *testing.T, c *Coll, m *model, id int) { addsAsModel(t, c, m, 0, id, 0) },
		func(t *testing.T, c *Coll, m *model, id int) { addsAsModel(t, c, m, 2, id, 0) },
		func(t *testing.T, c *Coll, m *model, id int) { addsAsModel(t, c, m, 2, id, 1) },
		func(t *testing.T, c *Coll, m *model, id int) { addsAsModel(t, c, m, 3, id, 2) },
		func(t *testing.T, c *Coll, m *model, id int) { expiresAsModel(t, c, m, 1) },
		func(t *testing.T, c *Coll, m *model, id int) { expiresAsModel(t, c, m, 2) },
		func(t *testing.T, c *Coll, m *model, id int) { expiresAsModel(t, c, m, 4) },
	}
	ways := 1
	for range depth {
		ways *= len(moves)
	}
	for most := 1; most <= 3; most++ {
		for way := range ways {
			c, m := New(2, most), &model{window: 2, most: most}
			for id, rest := 0, way; id < depth; id, rest = id+1, rest/len(moves) {
				moves[rest%len(moves)](t, c, m, id)
			}
		}
	}
}

// P14.1 to P14.3, P1: calls of chance, right and wrong ones, as the chapter's words have it.
func TestAsTheModel(t *testing.T) {
	for seed := range int64(3000) {
		chance := rand.New(rand.NewSource(seed))
		window, most := 1+uint64(chance.Intn(20)), 1+chance.Intn(widest)
		c, m := made(t, window, most), &model{window: window, most: most}
		anyTime := func(turn int) uint64 {
			switch chance.Intn(8) {
			case 0:
				return times()[chance.Intn(len(times()))]
			case 1:
				return greatest - uint64(chance.Intn(30))
			}
			return uint64(max(0, turn+chance.Intn(9)-4))
		}
		anyNumber := func() int {
			if chance.Intn(6) == 0 {
				return ends()[chance.Intn(len(ends()))]
			}
			return chance.Intn(5)
		}
		for turn := range 60 {
			if chance.Intn(3) == 0 {
				expiresAsModel(t, c, m, anyTime(turn))
			} else {
				addsAsModel(t, c, m, anyTime(turn), anyNumber(), anyNumber())
			}
		}
	}
}

// run is many commands that come to a Coll while time goes on, and what came of them.
type run struct {
	t      *testing.T
	c      *Coll
	most   int
	due    uint64 // of the window that is open
	begun  []int  // who opened a window, in turn
	end    map[int]uint64
	argOf  map[int]int // of each command that came
	leadOf map[int]int // of each command that was told: who is first in its batch
	told   []int       // who is first in each batch that was told, in turn
}

// come lets a command come, and looks at the step.
func (r *run) come(now uint64, id, arg int) {
	r.argOf[id] = arg
	was := r.c.Open()
	s := r.c.Add(now, id, arg)
	if s.Opened == was {
		r.t.Fatalf("a window was open: %t, and of %d it is %+v", was, id, s)
	}
	if s.Opened {
		r.begun, r.due = append(r.begun, id), s.Due
	}
	r.end[id] = r.due
	if s.Ready {
		r.tell(now, s.B)
		if len(s.B.Args) != r.most {
			r.t.Fatalf("ready are %d arguments of %d", len(s.B.Args), r.most)
		}
	}
}

// tell holds a batch against P14.4, and notes whose it was.
func (r *run) tell(now uint64, b batch.Batch) {
	if len(b.Members) == 0 || len(b.Args) == 0 || len(b.Args) > r.most {
		r.t.Fatalf("told is %+v of %d arguments at most", b, r.most)
	}
	if unlike := slices.Compact(slices.Sorted(slices.Values(b.Args))); len(unlike) != len(b.Args) {
		r.t.Fatalf("told is %+v, with arguments that are alike", b)
	}
	for _, m := range b.Members {
		if _, told := r.leadOf[m.Id]; told {
			r.t.Fatalf("%d is in another batch, too", m.Id)
		}
		if now > r.end[m.Id] {
			r.t.Fatalf("%d is told at %d, and its window was over at %d", m.Id, now, r.end[m.Id])
		}
		r.leadOf[m.Id] = batch.Lead(b)
	}
	r.told = append(r.told, batch.Lead(b))
	r.answer(b)
}

// answer splits values, one of each argument: each member is told that of its own (P7).
func (r *run) answer(b batch.Batch) {
	var vals []int
	for _, arg := range b.Args {
		vals = append(vals, 1000+arg)
	}
	pairs, ok := batch.Split(b, vals)
	if !ok || len(pairs) != len(b.Members) {
		r.t.Fatalf("%+v is split into %v, %t", b, pairs, ok)
	}
	for place, p := range pairs {
		if p.Id != b.Members[place].Id || p.Val != 1000+r.argOf[p.Id] {
			r.t.Fatalf("%d wants %d, and is told %v", p.Id, r.argOf[p.Id], p)
		}
	}
}

// P14.4, P7: many commands with many arguments, some wanted twice, at many times: each is in one batch, at the latest when its window is over; batches have no more arguments than most, and are told in the turn in which they were begun.
func TestEachIsInOneBatch(t *testing.T) {
	for seed := range int64(400) {
		chance := rand.New(rand.NewSource(seed))
		window, most := 1+uint64(chance.Intn(30)), 1+chance.Intn(widest)
		kinds, gap := 1+chance.Intn(8), 1+chance.Intn(6)
		r := &run{
			t: t, c: made(t, window, most), most: most,
			end: map[int]uint64{}, argOf: map[int]int{}, leadOf: map[int]int{},
		}
		now, id := uint64(chance.Intn(100)), 0
		for id < 300 || r.c.Open() {
			// The end comes ahead of who comes at it, at times, and at times behind; what is told ahead of the end is nothing.
			come := id < 300 && chance.Intn(gap) == 0
			early := chance.Intn(2) == 0
			if come && early {
				id++
				r.come(now, id, chance.Intn(kinds))
			}
			was := r.c.Open()
			b, over := r.c.Expire(now)
			if over != (was && now >= r.due) {
				t.Fatalf("seed %d: at %d, of an end at %d, over is %t", seed, now, r.due, over)
			}
			if over {
				r.tell(now, b)
			}
			if come && !early {
				id++
				r.come(now, id, chance.Intn(kinds))
			}
			if chance.Intn(3) == 0 {
				now++
			}
		}
		if len(r.leadOf) != id {
			t.Fatalf("seed %d: of %d commands %d are told", seed, id, len(r.leadOf))
		}
		if !slices.Equal(r.told, r.begun) {
			t.Fatalf("seed %d: begun are %v, told %v", seed, r.begun, r.told)
		}
	}
}

// P14.4: which batch each command was in, and when it was told, of one run that is written out.
func TestOneRun(t *testing.T) {
	c := made(t, 10, 3)
	opens(t, c, 100, 1, 5, 110)
	joins(t, c, 102, 2, 6)
	joins(t, c, 102, 3, 5)
	stays(t, c, 109)
	joins(t, c, 110, 4, 6) // at the end, and ahead of who looks: it is in time
	expires(t, c, 110, batch.Batch{Args: []int{5, 6}, Members: members(1, 0, 2, 1, 3, 0, 4, 1)})
	opens(t, c, 110, 5, 6, 120)
	joins(t, c, 111, 6, 5)
	adds(t, c, 112, 7, 4, Step{Ready: true, B: batch.Batch{Args: []int{6, 5, 4}, Members: members(5, 0, 6, 1, 7, 2)}})
	opens(t, c, 113, 8, 4, 123)
	stays(t, c, 120)
	stays(t, c, 122)
	expires(t, c, 125, batch.Batch{Args: []int{4}, Members: members(8, 0)})
	stays(t, c, 125)
}
