package permit

import (
	"maps"
	"math"
	"math/rand"
	"slices"
	"testing"

	"porpoise/api"
)

// model is the chapter's words, over a list of the holders that is always rising.
type model struct {
	most    int
	holders []Holder
}

// ahead tells whether a holder is told ahead of another one: by Id, then by Step.
func ahead(a, b Holder) bool {
	if a.Id != b.Id {
		return a.Id < b.Id
	}
	return a.Step < b.Step
}

func (m *model) take(h Holder) bool {
	if len(m.holders) >= m.most || slices.Contains(m.holders, h) {
		return false
	}
	place := 0
	for place < len(m.holders) && ahead(m.holders[place], h) {
		place++
	}
	m.holders = slices.Insert(m.holders, place, h)
	return true
}

func (m *model) free(h Holder) bool {
	i := slices.Index(m.holders, h)
	if i >= 0 {
		m.holders = slices.Delete(m.holders, i, i+1)
	}
	return i >= 0
}

// pair is a set, and what it should be.
type pair struct {
	t *testing.T
	s *Set
	m *model
}

func newPair(t *testing.T, most int) pair {
	t.Helper()
	p := pair{t, New(most), &model{most: most}}
	if p.s == nil {
		t.Fatalf("New(%d) is nil", most)
	}
	p.look()
	return p
}

// look holds all that is told without a change against the model.
func (p pair) look() {
	p.t.Helper()
	if got := p.s.All(); !slices.Equal(got, p.m.holders) {
		p.t.Fatalf("All() = %v, want %v", got, p.m.holders)
	}
	if got := p.s.Used(); got != len(p.m.holders) {
		p.t.Fatalf("Used() = %d, want %d", got, len(p.m.holders))
	}
	if got, want := p.s.Room(), len(p.m.holders) < p.m.most; got != want {
		p.t.Fatalf("Room() = %t of %v, %d in all, want %t", got, p.m.holders, p.m.most, want)
	}
}

// lookAt holds whether one holds a permit against the model.
func (p pair) lookAt(h Holder) {
	p.t.Helper()
	if got, want := p.s.Holds(h), slices.Contains(p.m.holders, h); got != want {
		p.t.Fatalf("Holds(%v) = %t of %v, want %t", h, got, p.m.holders, want)
	}
}

func (p pair) take(h Holder) bool {
	p.t.Helper()
	got, want := p.s.Take(h), p.m.take(h)
	if got != want {
		p.t.Fatalf("Take(%v) = %t, want %t", h, got, want)
	}
	p.look()
	p.lookAt(h)
	return got
}

func (p pair) free(h Holder) bool {
	p.t.Helper()
	got, want := p.s.Free(h), p.m.free(h)
	if got != want {
		p.t.Fatalf("Free(%v) = %t, want %t", h, got, want)
	}
	p.look()
	p.lookAt(h)
	return got
}

// some are so many unlike holders, that part in Id, in Step, or in both.
func some(count int) []Holder {
	var all []Holder
	for n := range count {
		all = append(all, Holder{Id: n / 3, Step: n % 3})
	}
	return all
}

// taken is a set of so many permits, with its first holders.
func taken(t *testing.T, most int, holders ...Holder) *Set {
	t.Helper()
	s := New(most)
	for _, h := range holders {
		if !s.Take(h) {
			t.Fatalf("a set of %d has no permit for %v", most, h)
		}
	}
	return s
}

// expect holds a set's holders against those that it should have, rising.
func expect(t *testing.T, s *Set, want ...Holder) {
	t.Helper()
	if got := s.All(); !slices.Equal(got, want) {
		t.Errorf("All() = %v, want %v", got, want)
	}
	if got := s.Used(); got != len(want) {
		t.Errorf("Used() = %d, want %d", got, len(want))
	}
	for _, h := range want {
		if !s.Holds(h) {
			t.Errorf("%v holds none", h)
		}
	}
}

// ends are numbers at which a comparison may go wrong.
func ends() []int {
	return []int{math.MinInt, math.MinInt + 1, math.MinInt32, -1, 0, 1, math.MaxInt32, 1 << 32, math.MaxInt - 1, math.MaxInt}
}

// far are all holders whose numbers are such.
func far() []Holder {
	var all []Holder
	for _, id := range ends() {
		for _, step := range ends() {
			all = append(all, Holder{id, step})
		}
	}
	return all
}

// P5.1: New, of all sizes that may be.
func TestNew(t *testing.T) {
	for most := range api.MaxPool + 1 {
		s := New(most)
		if s == nil {
			t.Fatalf("New(%d) is nil", most)
		}
		expect(t, s)
		if got, want := s.Room(), most > 0; got != want {
			t.Errorf("New(%d) has room: %t, want %t", most, got, want)
		}
		for _, h := range append(far(), some(9)...) {
			if s.Holds(h) || s.Free(h) {
				t.Errorf("of New(%d) %v holds one", most, h)
			}
		}
	}
}

// P5.1: New, of sizes that may not be.
func TestNewRefuses(t *testing.T) {
	for _, most := range []int{math.MinInt, math.MinInt32, -100, -2, -1, api.MaxPool + 1, api.MaxPool + 2, 100, 1 << 32, 1<<32 + 3, math.MaxInt} {
		if s := New(most); s != nil {
			t.Errorf("New(%d) is a set", most)
		}
	}
}

// P5.1, P4: Take, till all are held, and not one more; who is refused changes nothing, and so just then.
func TestTake(t *testing.T) {
	for most := range api.MaxPool + 1 {
		s := New(most)
		all := some(most + 3)
		for n, h := range all[:most] {
			if !s.Room() || s.Holds(h) || !s.Take(h) {
				t.Fatalf("a set of %d has no permit for its holder %d", most, n)
			}
			expect(t, s, all[:n+1]...)
		}
		for _, h := range all[most:] {
			if s.Room() || s.Take(h) || s.Holds(h) {
				t.Errorf("a set of %d has one more for %v", most, h)
			}
			expect(t, s, all[:most]...)
		}
	}
}

// P5.1: who holds one already gets no other one, whether one is left or not, and keeps that which it has.
func TestTakeTwice(t *testing.T) {
	for most := 1; most <= api.MaxPool; most++ {
		p := newPair(t, most)
		for _, h := range some(most) {
			p.take(h)
			for _, again := range some(most) {
				if slices.Contains(p.m.holders, again) && p.take(again) {
					t.Errorf("of %d %v has two", most, again)
				}
			}
		}
		for _, h := range some(most) { // one Free is enough: there weren't two
			if !p.free(h) || p.free(h) {
				t.Errorf("of %d %v had none, or two", most, h)
			}
		}
	}
}

// P5.1: Free, of each holder of a set of which all are held, or some; it may take again, and so may another one.
func TestFree(t *testing.T) {
	for count := 1; count <= api.MaxPool; count++ {
		for most := count; most <= api.MaxPool; most++ {
			for _, h := range some(count) {
				p := newPair(t, most)
				for _, one := range some(count) {
					p.take(one)
				}
				if !p.free(h) || p.free(h) {
					t.Errorf("of %d, %d held: %v can't free, or twice", most, count, h)
				}
				if !p.take(h) || !p.free(h) || !p.take(Holder{Id: 100}) {
					t.Errorf("of %d, %d held: what %v freed isn't left", most, count, h)
				}
				p.take(h)
			}
		}
	}
}

// P5.1: who holds none frees none: who never took, who was refused, who freed already.
func TestFreeOfNone(t *testing.T) {
	p := newPair(t, 3)
	a, b, c, d, e := Holder{1, 1}, Holder{1, 2}, Holder{2, 1}, Holder{2, 2}, Holder{3, 3}
	for _, h := range []Holder{a, b, c, d} {
		p.take(h)
	}
	p.free(a)
	for _, h := range []Holder{a, d, e, {}, {1, 0}, {0, 1}, {-1, -2}, {math.MaxInt, math.MinInt}} {
		if p.free(h) {
			t.Errorf("%v frees one, and holds none", h)
		}
	}
	expect(t, p.s, b, c)
}

// P5.1: holders are the same if their Ids and their Steps are; of one Id, or of one Step, they are not.
func TestHoldersAreCompared(t *testing.T) {
	all := far()
	for i, h := range all {
		s := taken(t, api.MaxPool, h)
		for j, other := range all {
			if got, want := s.Holds(other), i == j; got != want {
				t.Fatalf("%v holds one; Holds(%v) = %t", h, other, got)
			}
			if i == j {
				continue
			}
			if s.Free(other) || !s.Take(other) || s.Used() != 2 || !s.Free(other) {
				t.Fatalf("%v holds one; %v isn't another one", h, other)
			}
		}
		expect(t, s, h)
	}
}

// P5.1: a holder that is zero is one like others.
func TestZeroHolder(t *testing.T) {
	p := newPair(t, 2)
	p.lookAt(Holder{})
	p.free(Holder{})
	if !p.take(Holder{}) || p.take(Holder{}) || !p.take(Holder{Step: 1}) || !p.free(Holder{}) || p.free(Holder{}) {
		t.Error("it isn't")
	}
	expect(t, p.s, Holder{Step: 1})
}

// P5.1: the chapter's example.
func TestExample(t *testing.T) {
	s := New(1)
	first, second := Holder{Id: 1}, Holder{Id: 2}
	if !s.Take(first) || s.Take(second) || !s.Free(first) || !s.Take(second) {
		t.Error("the second holder gets one early, or none")
	}
	expect(t, s, second)
}

// P5.2: of a set of none nobody ever holds one, and none is left.
func TestSetOfNone(t *testing.T) {
	p := newPair(t, 0)
	for _, h := range some(4) {
		if p.take(h) || p.free(h) || p.s.Room() {
			t.Errorf("%v has one", h)
		}
	}
}

// P5.2: Room, and Used, however so many came to be held.
func TestRoomAndUsed(t *testing.T) {
	s := New(2)
	a, b, c := Holder{Id: 1}, Holder{Id: 2}, Holder{Id: 3}
	steps := []struct {
		name string
		do   func()
		room bool
		used int
	}{
		{"none", func() {}, true, 0},
		{"freed without one", func() { s.Free(a) }, true, 0},
		{"one", func() { s.Take(a) }, true, 1},
		{"the same one", func() { s.Take(a) }, true, 1},
		{"two", func() { s.Take(b) }, false, 2},
		{"one more", func() { s.Take(c) }, false, 2},
		{"the refused one frees", func() { s.Free(c) }, false, 2},
		{"one freed", func() { s.Free(a) }, true, 1},
		{"two again", func() { s.Take(c) }, false, 2},
		{"all freed", func() { s.Free(b); s.Free(c) }, true, 0},
	}
	for _, one := range steps {
		one.do()
		if s.Room() != one.room || s.Used() != one.used {
			t.Errorf("%s: room %t, used %d, want %t, %d", one.name, s.Room(), s.Used(), one.room, one.used)
		}
	}
}

// turns calls for each turn in which a few holders may stand.
func turns(all []Holder, do func([]Holder)) {
	var swap func(int)
	swap = func(from int) {
		if from == len(all) {
			do(all)
			return
		}
		for i := from; i < len(all); i++ {
			all[from], all[i] = all[i], all[from]
			swap(from + 1)
			all[from], all[i] = all[i], all[from]
		}
	}
	swap(0)
}

// P5.2: All tells the holders by Id, then by Step, whatever the turn in which they took.
func TestAllRises(t *testing.T) {
	want := []Holder{{1, 3}, {2, 0}, {2, 1}, {2, 4}, {3, 1}, {3, 2}}
	turns(slices.Clone(want), func(all []Holder) { expect(t, taken(t, len(all), all...), want...) })
}

// P5.2: also of numbers that are negative, or so far apart that their difference is too great.
func TestAllRisesFar(t *testing.T) {
	want := []Holder{
		{math.MinInt, math.MinInt}, {math.MinInt, math.MaxInt}, {-1, 5}, {0, math.MinInt}, {0, math.MaxInt}, {math.MaxInt, math.MinInt}, {math.MaxInt, 0},
	}
	turns(slices.Clone(want), func(all []Holder) { expect(t, taken(t, api.MaxPool, all...), want...) })
	for _, a := range far() {
		for _, b := range far() {
			if ahead(a, b) {
				expect(t, taken(t, 2, a, b), a, b)
				expect(t, taken(t, 2, b, a), a, b)
			}
		}
	}
}

// P5.2, R4: All hangs on no order of a map: asked again and again it is the same.
func TestAllIsAlwaysTheSame(t *testing.T) {
	s := taken(t, api.MaxPool, some(api.MaxPool)...)
	for range 200 {
		expect(t, s, some(api.MaxPool)...)
	}
}

// P5.2, R3: a list that is told is the caller's own: what is done to it, or appended, plays no part, nor what is done to the set afterwards.
func TestAllIsTheCallersOwn(t *testing.T) {
	a, b, c := Holder{Id: 1}, Holder{Id: 2}, Holder{Id: 3}
	s := taken(t, api.MaxPool, a, b)
	first, second := s.All(), s.All()
	first[0] = c
	_ = append(first[:1], c, c, c)
	expect(t, s, a, b)
	if !slices.Equal(second, []Holder{a, b}) {
		t.Errorf("two lists share what they tell: %v", second)
	}
	s.Take(c)
	s.Free(a)
	if !slices.Equal(second, []Holder{a, b}) {
		t.Errorf("a list that was told is %v", second)
	}
	expect(t, s, b, c)
}

// P5.2: what is asked alone, and what is refused, changes nothing.
func TestAskingChangesNothing(t *testing.T) {
	a, b, c := Holder{Id: 1}, Holder{Id: 2}, Holder{Id: 3}
	s := taken(t, 2, a, b)
	most, was := s.most, maps.Clone(s.holders)
	for range 3 {
		s.All()
		s.Used()
		s.Room()
		s.Holds(a)
		s.Holds(c)
		s.Take(a)
		s.Take(c)
		s.Free(c)
	}
	if s.most != most || !maps.Equal(s.holders, was) {
		t.Errorf("asked alone, it is %v of %d, and was %v of %d", s.holders, s.most, was, most)
	}
}

// P5.2: a Set that is nil.
func TestNil(t *testing.T) {
	for _, s := range []*Set{nil, New(-1), New(api.MaxPool + 1)} {
		for _, h := range append(far(), some(4)...) {
			if s.Take(h) || s.Holds(h) || s.Free(h) {
				t.Errorf("of one that is nil %v has one", h)
			}
		}
		if s.Used() != 0 || s.Room() || len(s.All()) != 0 {
			t.Errorf("one that is nil: used %d, room %t, all %v", s.Used(), s.Room(), s.All())
		}
	}
}

// P5.3: taken and freed all is as it was, in whatever turn, and however many others hold one.
func TestTakenAndFreed(t *testing.T) {
	for others := range api.MaxPool {
		s := taken(t, api.MaxPool, some(others)...)
		more := some(api.MaxPool)[others:]
		for round := range 2 * len(more) {
			for _, h := range more {
				if !s.Take(h) {
					t.Fatalf("%d others: round %d: %v gets none", others, round, h)
				}
			}
			if round%2 == 1 {
				slices.Reverse(more)
			}
			for n := range more {
				if h := more[(n+round)%len(more)]; !s.Free(h) {
					t.Fatalf("%d others: round %d: %v can't free", others, round, h)
				}
			}
			expect(t, s, some(others)...)
			if !s.Room() {
				t.Fatalf("%d others: round %d: none is left", others, round)
			}
		}
	}
}

// P5.3: nothing is kept of holders that freed.
func TestNothingIsKept(t *testing.T) {
	s := New(api.MaxPool)
	for n := range 10 * api.MaxPool {
		s.Take(Holder{Id: n})
		s.Free(Holder{Id: n - n%3})
	}
	for _, h := range s.All() {
		s.Free(h)
	}
	if len(s.holders) != 0 || s.most != api.MaxPool {
		t.Errorf("something is kept: %v of %d", s.holders, s.most)
	}
}

// P5.1 to P5.3: all ways to ask a small set a few times, of three holders.
func TestAllShortWays(t *testing.T) {
	const asked, kinds = 6, 6
	all := []Holder{{2, 1}, {1, 2}, {1, 1}}
	ways := 1
	for range asked {
		ways *= kinds
	}
	for most := range 4 {
		for way := range ways {
			p := newPair(t, most)
			for range asked {
				p.ask(way%2 == 0, all[way%kinds/2])
				way /= kinds
			}
		}
	}
}

func (p pair) ask(take bool, h Holder) {
	p.t.Helper()
	if take {
		p.take(h)
	} else {
		p.free(h)
	}
}

// P5.1 to P5.3, and P4: whatever is asked of a set of whatever size, it is as the chapter's words have it, and never are more held than there are.
func TestAsTheModel(t *testing.T) {
	for seed := range int64(300) {
		chance := rand.New(rand.NewSource(seed))
		p := newPair(t, chance.Intn(api.MaxPool+1))
		all := append(some(6), far()[chance.Intn(90):][:6]...)
		for range 300 {
			p.ask(chance.Intn(5) < 3, all[chance.Intn(len(all))])
			p.lookAt(all[chance.Intn(len(all))])
			if p.s.Used() > p.m.most {
				t.Fatalf("seed %d: %d are held, of %d", seed, p.s.Used(), p.m.most)
			}
		}
	}
}

// R4: a set plays no part at another one.
func TestSetsAreApart(t *testing.T) {
	x, y, z := Holder{Id: 1}, Holder{Id: 2}, Holder{Id: 3}
	a, b := taken(t, 3, x, y), taken(t, 3, x, y)
	a.Take(z)
	a.Free(x)
	expect(t, a, y, z)
	expect(t, b, x, y)
	if !b.Room() {
		t.Error("the other one has no room")
	}
}
