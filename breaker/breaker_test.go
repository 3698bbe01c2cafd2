package breaker

import (
	"math"
	"math/rand"
	"testing"

	"porpoise/api"
)

const most = math.MaxUint64

// model is the chapter's words, over what has happened: the state follows from it.
type model struct {
	c      api.Conf
	opened bool // tripped, and no probe was fine since
	probed bool // a probe is under way
	since  uint64
}

func (m *model) state() int {
	switch {
	case !m.opened:
		return 1
	case !m.probed:
		return 2
	}
	return 3
}

// awake tells whether now isn't below since and the sleep together, without that sum: one that goes over is the greatest number, and that alone isn't below it.
func (m *model) awake(now uint64) bool {
	return now == most || now >= m.since && now-m.since >= m.c.Sleep
}

func (m *model) ask(now uint64) int {
	switch {
	case m.c.Force == 1:
		return 3
	case m.c.Force == 2, !m.opened:
		return 1
	case m.probed, !m.awake(now):
		return 3
	}
	m.probed = true
	return 2
}

func (m *model) trip(now uint64) bool {
	if m.c.Force != 0 || m.opened {
		return false
	}
	m.opened, m.since = true, now
	return true
}

func (m *model) done(now uint64, ok bool) bool {
	if !m.probed {
		return false
	}
	m.probed, m.opened = false, !ok
	if !ok {
		m.since = now
	}
	return true
}

func (m *model) back() bool {
	was := m.probed
	m.probed = false
	return was
}

// pair is a breaker, and what it should be.
type pair struct {
	t *testing.T
	b *Breaker
	m *model
}

func newPair(t *testing.T, c api.Conf) pair {
	t.Helper()
	p := pair{t, New(c), &model{c: c}}
	p.look("New")
	return p
}

// look holds all that is told without a change against the model.
func (p pair) look(call string) {
	p.t.Helper()
	expect(p.t, p.b, call, p.m.state(), p.m.since)
}

func (p pair) ask(now uint64) int {
	p.t.Helper()
	got, want := p.b.Ask(now), p.m.ask(now)
	if got != want {
		p.t.Fatalf("Ask(%d) = %d, want %d: %+v", now, got, want, *p.m)
	}
	p.look("Ask")
	return got
}

func (p pair) trip(now uint64) bool {
	p.t.Helper()
	got, want := p.b.Trip(now), p.m.trip(now)
	if got != want {
		p.t.Fatalf("Trip(%d) = %t, want %t: %+v", now, got, want, *p.m)
	}
	p.look("Trip")
	return got
}

func (p pair) done(now uint64, ok bool) bool {
	p.t.Helper()
	got, want := p.b.Done(now, ok), p.m.done(now, ok)
	if got != want {
		p.t.Fatalf("Done(%d, %t) = %t, want %t: %+v", now, ok, got, want, *p.m)
	}
	p.look("Done")
	return got
}

func (p pair) back() bool {
	p.t.Helper()
	got, want := p.b.Back(), p.m.back()
	if got != want {
		p.t.Fatalf("Back() = %t, want %t: %+v", got, want, *p.m)
	}
	p.look("Back")
	return got
}

// expect wants a state, and since when; asked twice, it is the same.
func expect(t *testing.T, b *Breaker, call string, state int, since uint64) {
	t.Helper()
	for range 2 {
		if b == nil {
			t.Fatalf("behind %s: nil", call)
		}
		if got := b.State(); got != state {
			t.Fatalf("behind %s: State() = %d, want %d", call, got, state)
		}
		if got := b.Since(); got != since {
			t.Fatalf("behind %s: Since() = %d, want %d", call, got, since)
		}
	}
}

// expectAsk wants an answer of one who asks.
func expectAsk(t *testing.T, b *Breaker, now uint64, want int) {
	t.Helper()
	if got := b.Ask(now); got != want {
		t.Fatalf("Ask(%d) = %d, want %d", now, got, want)
	}
}

// tripped is a breaker that sleeps so long, open since a time.
func tripped(t *testing.T, sleep, since uint64) *Breaker {
	t.Helper()
	b := New(api.Conf{Sleep: sleep})
	if !b.Trip(since) {
		t.Fatalf("a closed one isn't tripped at %d", since)
	}
	expect(t, b, "Trip", Open, since)
	return b
}

// probing is one whose probe is under way.
func probing(t *testing.T, sleep, since uint64) *Breaker {
	t.Helper()
	b := tripped(t, sleep, since)
	expectAsk(t, b, most, Probe)
	expect(t, b, "Ask", Half, since)
	return b
}

// times are such at which a comparison may go wrong.
func times() []uint64 {
	return []uint64{
		0, 1, 2, 9, 10, 11, 1<<31 - 1, 1 << 31, 1<<32 - 1, 1 << 32, 1<<32 + 1, 1<<40 - 1, 1 << 40, 1<<40 + 1,
		1<<63 - 1, 1 << 63, 1<<63 + 1, most - 11, most - 10, most - 9, most - 1, most,
	}
}

// oddForces are such as may not be.
func oddForces() []int {
	return []int{math.MinInt, math.MinInt32, -1 << 32, -256, -2, -1, 3, 4, 255, 256, 257, 258, 1 << 32, 1<<32 + 1, 1<<32 + 2, math.MaxInt}
}

// The chapter's constants, which have no type of their own.
func TestConstants(t *testing.T) {
	states := [3]uint8{Closed, Open, Half} // does not compile, if they have a type
	if states != [3]uint8{1, 2, 3} {
		t.Errorf("states: %v", states)
	}
	told := [3]uint8{Pass, Probe, Short}
	if told != [3]uint8{1, 2, 3} {
		t.Errorf("what is told: %v", told)
	}
}

// P9.1: New is closed, since 0, whatever the configuration, also one that may not be.
func TestNew(t *testing.T) {
	for _, force := range append(oddForces(), api.ForceNone, api.ForceOpen, api.ForceClosed) {
		for _, sleep := range times() {
			expect(t, New(api.Conf{Sleep: sleep, Force: force}), "New", Closed, 0)
			expect(t, New(api.Conf{Mode: -1, Pool: 9, Queue: -3, Volume: -1, Percent: 101, Sleep: sleep, Force: force}), "New", Closed, 0)
		}
	}
}

// P9.1: no other field of the configuration plays a part.
func TestNewOfSleepAndForceAlone(t *testing.T) {
	for _, c := range []api.Conf{
		{Sleep: 10},
		{
			Mode: api.Pool, Pool: 3, Queue: 5, FbMax: 2, Chain: 1, Timeout: 7, FbTimeout: 4,
			Volume: 20, Percent: 50, Sleep: 10, Buckets: 6, Width: 7, Window: 9, Batch: 3,
		},
		{
			Mode: -1, Pool: -2, Queue: -3, Sem: -4, FbMax: -5, Chain: -6, Timeout: most, FbTimeout: most,
			Volume: -7, Percent: -8, Sleep: 10, Buckets: -9, Width: most, Window: most, Batch: -10,
		},
	} {
		p := newPair(t, c)
		p.ask(4)
		p.trip(5)
		for now := range uint64(15) {
			p.ask(now)
		}
		p.ask(15)
		p.done(16, true)
		p.ask(16)
	}
}

// R3: the configuration is taken as it was; two breakers of one share nothing.
func TestNewSharesNothing(t *testing.T) {
	c := api.Conf{Sleep: 10}
	one, other := New(c), New(c)
	c.Sleep, c.Force = 0, api.ForceOpen
	if !one.Trip(5) {
		t.Fatal("one isn't tripped")
	}
	expectAsk(t, one, 14, Short)
	expectAsk(t, one, 15, Probe)
	expect(t, other, "the other's probe", Closed, 0)
	expectAsk(t, other, 15, Pass)
	if !other.Trip(7) || other.Done(8, true) || other.Back() {
		t.Fatal("the other one's probe is taken for its own")
	}
	expect(t, one, "the other's trip", Half, 5)
}

// P9.1: closed, all pass, at all times, and nothing changes.
func TestAskOfAClosedOne(t *testing.T) {
	for _, sleep := range times() {
		b := New(api.Conf{Sleep: sleep})
		for _, now := range times() {
			expectAsk(t, b, now, Pass)
			expect(t, b, "Ask", Closed, 0)
		}
	}
}

// P9.1: the chapter's example.
func TestAskOfATrippedOne(t *testing.T) {
	b := New(api.Conf{Sleep: 10})
	expectAsk(t, b, 3, Pass)
	if !b.Trip(5) {
		t.Fatal("it isn't tripped")
	}
	for now := uint64(5); now < 15; now++ {
		expectAsk(t, b, now, Short)
		expect(t, b, "Ask", Open, 5)
	}
	expectAsk(t, b, 15, Probe)
	expect(t, b, "Ask", Half, 5)
	expectAsk(t, b, 15, Short)
	expectAsk(t, b, 16, Short)
	expectAsk(t, b, most, Short)
	expect(t, b, "Ask", Half, 5)
}

// P9.1: just below, at, and just above Since and Sleep together, where these don't go over.
func TestAskAtTheEndOfTheSleep(t *testing.T) {
	for _, since := range times() {
		for _, sleep := range times() {
			if sleep > most-since {
				continue
			}
			end := since + sleep
			if end > 0 {
				b := tripped(t, sleep, since)
				expectAsk(t, b, end-1, Short)
				expect(t, b, "Ask", Open, since)
				expectAsk(t, b, end, Probe)
			}
			b := tripped(t, sleep, since)
			expectAsk(t, b, end, Probe)
			expect(t, b, "Ask", Half, since)
			expectAsk(t, b, end, Short)
			if end < most {
				b = tripped(t, sleep, since)
				expectAsk(t, b, end+1, Probe)
				expect(t, b, "Ask", Half, since)
			}
		}
	}
}

// P9.1: a sleep of 0: the first one who asks, not ahead of Since, is the probe.
func TestAskWithoutASleep(t *testing.T) {
	b := tripped(t, 0, 5)
	expectAsk(t, b, 4, Short)
	expectAsk(t, b, 0, Short)
	expectAsk(t, b, 5, Probe)
	expectAsk(t, b, 5, Short)
	if !b.Done(6, false) {
		t.Fatal("the probe isn't done")
	}
	expectAsk(t, b, 5, Short)
	expectAsk(t, b, 6, Probe)
	b = tripped(t, 0, 0)
	expectAsk(t, b, 0, Probe)
	b = tripped(t, 0, most)
	expectAsk(t, b, most-1, Short)
	expectAsk(t, b, most, Probe)
}

// P9.1: Since and Sleep that go over are the greatest number together: there is a probe just then.
func TestAskOfASleepThatGoesOver(t *testing.T) {
	for _, x := range []struct{ since, sleep uint64 }{
		{1, most}, {most, 1}, {most, most}, {most, 1 << 40}, {most - 9, 10}, {most - 9, 11}, {10, most - 9},
		{1 << 63, 1 << 63}, {1<<63 + 5, 1 << 63}, {1 << 63, most}, {5, most},
	} {
		b := tripped(t, x.sleep, x.since)
		for _, now := range times() {
			if now < most {
				expectAsk(t, b, now, Short)
			}
		}
		expectAsk(t, b, x.since-1, Short)
		// A sum that wraps round would be over here.
		expectAsk(t, b, x.since+x.sleep, Short)
		expect(t, b, "Ask", Open, x.since)
		expectAsk(t, b, most, Probe)
		expect(t, b, "Ask", Half, x.since)
	}
	b := tripped(t, 10, most-10)
	expectAsk(t, b, most-1, Short)
	expectAsk(t, b, most, Probe)
	b = tripped(t, 10, most-11)
	expectAsk(t, b, most-2, Short)
	expectAsk(t, b, most-1, Probe)
}

// P9.1, P9.2: a now that is below an earlier one is taken as it is; no time but Since is kept.
func TestTimesThatGoBack(t *testing.T) {
	b := New(api.Conf{Sleep: 10})
	expectAsk(t, b, 1000, Pass)
	if !b.Trip(5) {
		t.Fatal("it isn't tripped")
	}
	expect(t, b, "Trip", Open, 5)
	expectAsk(t, b, 14, Short)
	expectAsk(t, b, 2, Short)
	expectAsk(t, b, 14, Short)
	expectAsk(t, b, 15, Probe)
	if !b.Done(3, false) {
		t.Fatal("the probe isn't done")
	}
	expect(t, b, "Done", Open, 3)
	expectAsk(t, b, 12, Short)
	expectAsk(t, b, 13, Probe)
	if !b.Done(0, true) || !b.Trip(1) {
		t.Fatal("it isn't closed, and tripped again")
	}
	expect(t, b, "Trip", Open, 1)
	expectAsk(t, b, 10, Short)
	expectAsk(t, b, 11, Probe)
	b = tripped(t, 10, 100)
	expectAsk(t, b, 50, Short)
	expectAsk(t, b, 99, Short)
	expectAsk(t, b, 0, Short)
	expectAsk(t, b, 110, Probe)
}

// P9.2: Trip, at all times; only a closed one is tripped, else nothing changes.
func TestTrip(t *testing.T) {
	for _, since := range times() {
		b := New(api.Conf{Sleep: 10})
		if !b.Trip(since) {
			t.Fatalf("a closed one isn't tripped at %d", since)
		}
		expect(t, b, "Trip", Open, since)
		for _, now := range times() {
			if b.Trip(now) {
				t.Fatalf("an open one is tripped at %d", now)
			}
			expect(t, b, "Trip", Open, since)
		}
		expectAsk(t, b, most, Probe)
		for _, now := range times() {
			if b.Trip(now) {
				t.Fatalf("one with a probe is tripped at %d", now)
			}
			expect(t, b, "Trip", Half, since)
		}
		if !b.Done(since, true) || !b.Trip(since/2) {
			t.Fatal("closed again, it isn't tripped")
		}
		expect(t, b, "Trip", Open, since/2)
	}
}

// P9.2: a trip while it is open doesn't lengthen its sleep.
func TestTripOfAnOpenOne(t *testing.T) {
	b := tripped(t, 10, 5)
	if b.Trip(14) {
		t.Fatal("an open one is tripped")
	}
	expectAsk(t, b, 14, Short)
	expectAsk(t, b, 15, Probe)
}

// P9.2: a probe that was fine closes it; Since stays as it was.
func TestDoneFine(t *testing.T) {
	for _, since := range times() {
		for _, now := range times() {
			b := probing(t, 10, since)
			if !b.Done(now, true) {
				t.Fatal("the probe isn't done")
			}
			expect(t, b, "Done", Closed, since)
			for _, later := range times() {
				expectAsk(t, b, later, Pass)
			}
			if b.Done(now, true) || b.Done(now, false) || b.Back() {
				t.Fatal("a probe is done twice")
			}
			expect(t, b, "Done", Closed, since)
		}
	}
}

// P9.2: a probe that failed lets it be open anew, since then.
func TestDoneBadly(t *testing.T) {
	for _, since := range times() {
		for _, now := range times() {
			b := probing(t, 10, since)
			if !b.Done(now, false) {
				t.Fatal("the probe isn't done")
			}
			expect(t, b, "Done", Open, now)
			if b.Done(since, true) || b.Done(since, false) || b.Back() || b.Trip(since) {
				t.Fatal("a probe is done twice")
			}
			expect(t, b, "Done", Open, now)
		}
	}
	b := probing(t, 10, 5)
	b.Done(20, false)
	expectAsk(t, b, 20, Short)
	expectAsk(t, b, 29, Short)
	expectAsk(t, b, 30, Probe)
}

// P9.2: a probe that is given back lets it be open, since then as it was: the next who asks is one.
func TestBack(t *testing.T) {
	for _, since := range times() {
		b := probing(t, 10, since)
		if !b.Back() {
			t.Fatal("the probe isn't given back")
		}
		expect(t, b, "Back", Open, since)
		if b.Back() || b.Done(since, true) || b.Done(since, false) || b.Trip(since) {
			t.Fatal("a probe is given back twice")
		}
		expect(t, b, "Back", Open, since)
	}
	b := tripped(t, 10, 5)
	for range 3 {
		expectAsk(t, b, 14, Short)
		expectAsk(t, b, 15, Probe)
		expectAsk(t, b, 15, Short)
		if !b.Back() {
			t.Fatal("the probe isn't given back")
		}
		expect(t, b, "Back", Open, 5)
	}
}

// P9.2: Done and Back without a probe: false, and nothing changes.
func TestDoneAndBackWithoutAProbe(t *testing.T) {
	closed, open := New(api.Conf{Sleep: 10}), tripped(t, 10, 5)
	for _, now := range times() {
		for _, ok := range []bool{true, false} {
			if closed.Done(now, ok) || closed.Back() {
				t.Fatalf("a closed one has a probe at %d", now)
			}
			expect(t, closed, "Done", Closed, 0)
			if open.Done(now, ok) || open.Back() {
				t.Fatalf("an open one has a probe at %d", now)
			}
			expect(t, open, "Done", Open, 5)
		}
	}
	expectAsk(t, closed, 0, Pass)
	expectAsk(t, open, 14, Short)
	expectAsk(t, open, 15, Probe)
}

// P9.2: Since is the last time at which it was open anew, through a long life.
func TestSince(t *testing.T) {
	b := New(api.Conf{Sleep: 10})
	b.Trip(5)
	expect(t, b, "Trip", Open, 5)
	b.Ask(15)
	expect(t, b, "Ask", Half, 5)
	b.Done(20, false)
	expect(t, b, "Done", Open, 20)
	b.Ask(31)
	b.Back()
	expect(t, b, "Back", Open, 20)
	b.Ask(32)
	b.Done(40, true)
	expect(t, b, "Done", Closed, 20)
	b.Trip(41)
	expect(t, b, "Trip", Open, 41)
}

// P9.1 to P9.3: forced, it answers the same always, and never changes, whoever calls.
func TestForced(t *testing.T) {
	forces := map[int]int{api.ForceOpen: Short, api.ForceClosed: Pass}
	for _, force := range oddForces() {
		forces[force] = Pass // it is closed, and only without a force is it tripped
	}
	for force, want := range forces {
		for _, sleep := range times() {
			b := New(api.Conf{Sleep: sleep, Force: force})
			for _, now := range times() {
				expectAsk(t, b, now, want)
				if b.Trip(now) || b.Done(now, true) || b.Done(now, false) || b.Back() {
					t.Fatalf("forced by %d, it changes at %d", force, now)
				}
				expectAsk(t, b, now, want)
				expect(t, b, "a call, forced", Closed, 0)
			}
		}
	}
}

// P9.2, P1: of a breaker that is nil.
func TestNil(t *testing.T) {
	var b *Breaker
	for range 2 {
		for _, now := range times() {
			if got := b.Ask(now); got != Short {
				t.Errorf("Ask(%d) = %d, want Short", now, got)
			}
			if b.Trip(now) || b.Done(now, true) || b.Done(now, false) || b.Back() {
				t.Errorf("a nil one changes at %d", now)
			}
			if state, since := b.State(), b.Since(); state != 0 || since != 0 {
				t.Errorf("State() = %d, Since() = %d, want zeros", state, since)
			}
		}
	}
}

// P9.3, P6: there is one probe at a time: until it ends, all others are short, whatever is called meanwhile.
func TestOneProbeAtATime(t *testing.T) {
	for _, sleep := range times() {
		b := probing(t, sleep, 5)
		for _, now := range times() {
			expectAsk(t, b, now, Short)
			if b.Trip(now) {
				t.Fatal("it is tripped")
			}
			expect(t, b, "Ask", Half, 5)
		}
		if !b.Back() {
			t.Fatal("the probe isn't given back")
		}
		expectAsk(t, b, most, Probe)
		expectAsk(t, b, most, Short)
		if !b.Done(5, false) {
			t.Fatal("the probe isn't done")
		}
		expectAsk(t, b, most, Probe)
		expectAsk(t, b, most, Short)
	}
}

// P9.3: through all calls: a probe begins only while there is none, is ended once, and is under way just in the state Half; Pass is told just of a closed one, of one that isn't forced.
func TestProbesOfChance(t *testing.T) {
	chance := rand.New(rand.NewSource(93))
	for range 300 {
		b := New(api.Conf{Sleep: uint64(chance.Intn(4))})
		probes, ended := 0, 0
		for now := range uint64(200) {
			before := b.State()
			switch chance.Intn(6) {
			case 0:
				b.Trip(now)
			case 1:
				if b.Done(now, chance.Intn(2) == 0) {
					ended++
				}
			case 2:
				if b.Back() {
					ended++
				}
			default:
				told := b.Ask(now)
				if told == Probe {
					probes++
				}
				if (told == Pass) != (before == Closed) || told == Probe && before != Open {
					t.Fatalf("in the state %d Ask tells %d", before, told)
				}
			}
			under := probes - ended
			if under < 0 || under > 1 || (under == 1) != (b.State() == Half) {
				t.Fatalf("%d probes, %d ended, and the state %d", probes, ended, b.State())
			}
		}
	}
}

// step is one call of a breaker, by its number.
func (p pair) step(call int, now uint64) {
	p.t.Helper()
	switch call {
	case 0:
		p.ask(now)
	case 1:
		p.trip(now)
	case 2:
		p.done(now, true)
	case 3:
		p.done(now, false)
	case 4:
		p.back()
	}
}

// P2: all ways of some calls, one behind another, at times that go on or back, as the chapter's words have it.
func TestAllWays(t *testing.T) {
	const calls, length = 5, 5
	nows := []uint64{5, 6} // tripped at the first one, it is awake at the second
	ways := 1
	for range length {
		ways *= calls * len(nows)
	}
	for way := range ways {
		p := newPair(t, api.Conf{Sleep: 1})
		for left, n := way, 0; n < length; n++ {
			step := left % (calls * len(nows))
			left /= calls * len(nows)
			p.step(step%calls, nows[step/calls])
		}
	}
}

// P2: whatever is called, at whatever times, of whatever configuration, as the chapter's words have it.
func TestOfChance(t *testing.T) {
	chance := rand.New(rand.NewSource(9))
	edges, odd := times(), oddForces()
	for range 5000 {
		c := api.Conf{Sleep: edges[chance.Intn(len(edges))]}
		switch chance.Intn(8) {
		case 0:
			c.Force = odd[chance.Intn(len(odd))]
		case 1:
			c.Force = 1 + chance.Intn(2)
		}
		p := newPair(t, c)
		for range 60 {
			now := edges[chance.Intn(len(edges))]
			switch chance.Intn(3) {
			case 0: // beside the end of the sleep, where one that goes over wraps round
				now = p.b.Since() + c.Sleep + uint64(chance.Intn(3)) - 1
			case 1:
				now = chance.Uint64() >> chance.Intn(64)
			}
			p.step(chance.Intn(5), now)
		}
	}
}
