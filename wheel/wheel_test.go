package wheel

import (
	"cmp"
	"math"
	"math/rand"
	"slices"
	"testing"

	"porpoise/api"
)

const most = math.MaxUint64

func timer(n int) api.Timer { return api.Timer{Kind: 1, Id: n} }

// item is a timer, and when it is due, or came.
type item struct {
	timer api.Timer
	due   uint64
}

// model is the chapter's words, over a list of the timers in the turn in which they were put.
type model struct {
	now   uint64
	items []item
}

func (m *model) index(k api.Timer) int {
	return slices.IndexFunc(m.items, func(i item) bool { return i.timer == k })
}

func (m *model) first() int {
	best := -1
	for i, one := range m.items {
		if best < 0 || one.due < m.items[best].due {
			best = i
		}
	}
	return best
}

func (m *model) put(k api.Timer, due uint64) api.Errno {
	if m.index(k) >= 0 {
		return api.ErrThere
	}
	m.items = append(m.items, item{k, max(due, m.now)})
	return api.OK
}

func (m *model) cancel(k api.Timer) bool {
	i := m.index(k)
	if i >= 0 {
		m.items = slices.Delete(m.items, i, i+1)
	}
	return i >= 0
}

func (m *model) due(k api.Timer) (uint64, bool) {
	if i := m.index(k); i >= 0 {
		return m.items[i].due, true
	}
	return 0, false
}

func (m *model) next() (uint64, bool) {
	if i := m.first(); i >= 0 {
		return m.items[i].due, true
	}
	return 0, false
}

func (m *model) step(to uint64) (api.Timer, bool) {
	i := m.first()
	if i < 0 || m.items[i].due > to {
		m.now = max(m.now, to)
		return api.Timer{}, false
	}
	one := m.items[i]
	m.items = slices.Delete(m.items, i, i+1)
	m.now = one.due
	return one.timer, true
}

// pair is a wheel, and what it should be.
type pair struct {
	t *testing.T
	w *Wheel
	m *model
}

func newPair(t *testing.T, now uint64) pair {
	p := pair{t, New(now), &model{now: now}}
	p.look()
	return p
}

// look holds all that is told without a change against the model.
func (p pair) look() {
	p.t.Helper()
	if got := p.w.Now(); got != p.m.now {
		p.t.Fatalf("Now() = %d, want %d", got, p.m.now)
	}
	if got := p.w.Len(); got != len(p.m.items) {
		p.t.Fatalf("Len() = %d, want %d", got, len(p.m.items))
	}
	got, ok := p.w.Next()
	if want, is := p.m.next(); got != want || ok != is {
		p.t.Fatalf("Next() = %d, %t, want %d, %t", got, ok, want, is)
	}
}

func (p pair) lookAt(k api.Timer) {
	p.t.Helper()
	got, ok := p.w.Due(k)
	if want, is := p.m.due(k); got != want || ok != is {
		p.t.Fatalf("Due(%v) = %d, %t, want %d, %t", k, got, ok, want, is)
	}
}

func (p pair) put(k api.Timer, due uint64) {
	p.t.Helper()
	if got, want := p.w.Put(k, due), p.m.put(k, due); got != want {
		p.t.Fatalf("Put(%v, %d) = %v, want %v", k, due, got, want)
	}
	p.lookAt(k)
	p.look()
}

func (p pair) cancel(k api.Timer) {
	p.t.Helper()
	if got, want := p.w.Cancel(k), p.m.cancel(k); got != want {
		p.t.Fatalf("Cancel(%v) = %t, want %t", k, got, want)
	}
	p.lookAt(k)
	p.look()
}

func (p pair) step(to uint64) bool {
	p.t.Helper()
	got, ok := p.w.Step(to)
	want, is := p.m.step(to)
	if got != want || ok != is {
		p.t.Fatalf("Step(%d) = %v, %t, want %v, %t", to, got, ok, want, is)
	}
	p.look()
	return ok
}

// drain steps to a time till none comes any more.
func drain(w *Wheel, to uint64) []item {
	var all []item
	for {
		k, ok := w.Step(to)
		if !ok {
			return all
		}
		all = append(all, item{k, w.Now()})
	}
}

// edges are times around the ends of slots and blocks, of all levels and farther.
func edges() []uint64 {
	l := []uint64{0, 1, 5, 62, 63, 65, 70, 100, 1 << 40, most/2 + 1, most - 64, most - 63, most - 1, most}
	for n := 6; n <= 60; n += 6 {
		power := uint64(1) << n
		l = append(l, power-1, power, power+1, 2*power-1, 2*power, 3*power+5)
	}
	slices.Sort(l)
	return slices.Compact(l)
}

// P3.1: New.
func TestNew(t *testing.T) {
	for _, now := range edges() {
		w := New(now)
		if w == nil {
			t.Fatal("New is nil")
		}
		if w.Now() != now || w.Len() != 0 {
			t.Errorf("new at %d: it is %d, with %d timers", now, w.Now(), w.Len())
		}
		if due, ok := w.Next(); due != 0 || ok {
			t.Errorf("new at %d: the next is %d, %t", now, due, ok)
		}
		if k, ok := w.Step(most); k != (api.Timer{}) || ok || w.Now() != most {
			t.Errorf("new at %d, stepped: %v, %t, at %d", now, k, ok, w.Now())
		}
	}
}

// P3.1: Put and Due, at times of all levels, at such that are over already, and now.
func TestPut(t *testing.T) {
	for _, now := range edges() {
		w := New(now)
		for i, due := range edges() {
			if e := w.Put(timer(i), due); e != api.OK {
				t.Errorf("at %d put at %d: %v", now, due, e)
			}
			if w.Len() != i+1 || w.Now() != now {
				t.Errorf("at %d put at %d: %d timers, at %d", now, due, w.Len(), w.Now())
			}
		}
		for i, due := range edges() {
			if got, ok := w.Due(timer(i)); got != max(now, due) || !ok {
				t.Errorf("at %d put at %d: due at %d, %t", now, due, got, ok)
			}
		}
	}
}

// P3.1: a timer that is there already stays as it is.
func TestPutThere(t *testing.T) {
	p := newPair(t, 10)
	p.put(timer(1), 70)
	p.put(timer(2), 70)
	for _, due := range []uint64{0, 10, 11, 69, 70, 71, 1 << 30, most} {
		if e := p.w.Put(timer(1), due); e != api.ErrThere {
			t.Errorf("put again at %d: %v", due, e)
		}
		p.lookAt(timer(1))
		p.look()
	}
	for p.step(most) { // its turn, too
	}
}

// P3.1: what came or was cancelled may be put again; it is the last then of its time.
func TestPutAgain(t *testing.T) {
	p := newPair(t, 0)
	for n := range 3 {
		p.put(timer(n), 5000)
	}
	p.cancel(timer(0))
	p.put(timer(0), 5000)
	p.step(5000)
	p.put(timer(1), 5000)
	for _, want := range []int{2, 0, 1} {
		if k, ok := p.w.Step(5000); k != timer(want) || !ok {
			t.Errorf("step: %v, %t, want the timer %d", k, ok, want)
		}
	}
}

// P3.1: timers are the same if their kinds and numbers are, of whatever size.
func TestTimersAreCompared(t *testing.T) {
	all := []api.Timer{
		{}, {Kind: 1}, {Id: 1}, {Kind: 1, Id: 1}, {Kind: 2, Id: 1}, {Kind: 1, Id: 2}, {Kind: -1, Id: -1},
		{Kind: math.MaxInt, Id: math.MinInt}, {Kind: math.MinInt, Id: math.MaxInt},
	}
	p := newPair(t, 0)
	for i, k := range all {
		p.put(k, uint64(100*i))
	}
	for _, k := range all {
		p.put(k, 1)
		p.lookAt(k)
	}
	p.cancel(api.Timer{Kind: 1, Id: 1})
	for _, k := range all {
		p.lookAt(k)
	}
	for p.step(most) {
	}
}

// P3.2: the zero Timer is one like others.
func TestZeroTimer(t *testing.T) {
	w := New(0)
	w.Put(api.Timer{}, 5)
	if k, ok := w.Step(5); k != (api.Timer{}) || !ok || w.Len() != 0 || w.Now() != 5 {
		t.Errorf("step: %v, %t, %d left, at %d", k, ok, w.Len(), w.Now())
	}
}

// P3.1: Cancel, of the first, of the last, and of one between, at all levels; and of what isn't there.
func TestCancel(t *testing.T) {
	for _, due := range edges() {
		for _, gone := range [][]int{{0}, {1}, {2}, {0, 1}, {1, 2}, {2, 0}, {0, 1, 2}, {2, 1, 0}} {
			p := newPair(t, 3)
			p.cancel(timer(0))
			for n := range 3 {
				p.put(timer(n), due)
			}
			for _, n := range gone {
				p.cancel(timer(n))
				p.cancel(timer(n))
			}
			p.put(timer(3), due)
			p.cancel(timer(4))
			for n := range 5 {
				p.lookAt(timer(n))
			}
			for p.step(most) {
			}
		}
	}
}

// P3.1: what is cancelled on the way does not come, however near it has come.
func TestCancelOnTheWay(t *testing.T) {
	for _, due := range edges() {
		for _, to := range edges() {
			p := newPair(t, 0)
			for n := range 3 {
				p.put(timer(n), due)
			}
			p.step(to)
			p.cancel(timer(1))
			p.cancel(timer(0))
			for p.step(most) {
			}
		}
	}
}

// P3.1: Due, without it.
func TestDueWithout(t *testing.T) {
	w := New(7)
	w.Put(timer(1), 9)
	for _, k := range []api.Timer{{}, timer(2), {Kind: 2, Id: 1}} {
		if due, ok := w.Due(k); due != 0 || ok {
			t.Errorf("Due(%v) = %d, %t", k, due, ok)
		}
	}
	w.Step(9)
	if due, ok := w.Due(timer(1)); due != 0 || ok {
		t.Errorf("it came: due at %d, %t", due, ok)
	}
}

// P3.2: the chapter's example.
func TestExample(t *testing.T) {
	w := New(0)
	w.Put(timer(1), 70)
	w.Put(timer(2), 5)
	w.Put(timer(3), 70)
	want := []item{{timer(2), 5}, {timer(1), 70}, {timer(3), 70}}
	if got := drain(w, 100); !slices.Equal(got, want) {
		t.Errorf("%v, want %v", got, want)
	}
	if w.Now() != 100 || w.Len() != 0 {
		t.Errorf("it is %d, with %d timers", w.Now(), w.Len())
	}
}

// P3.2: Next, of the levels and farther, and what it tells when the first one is cancelled.
func TestNext(t *testing.T) {
	p := newPair(t, 60)
	dues := []uint64{most, 1 << 30, 1<<24 - 1, 1 << 18, 5000, 4095, 70, 64, 63, 60}
	for n, due := range dues {
		p.put(timer(n), due)
	}
	for n := len(dues) - 1; n >= 0; n-- {
		if due, ok := p.w.Next(); due != dues[n] || !ok {
			t.Errorf("Next() = %d, %t, want %d", due, ok, dues[n])
		}
		p.cancel(timer(n))
	}
	if p.w.Now() != 60 {
		t.Errorf("asked alone, it is %d", p.w.Now())
	}
}

// P3.2: of those in one slot of a higher level, and of those that are farther, the soonest is the first, however they were put.
func TestSoonestOfASlot(t *testing.T) {
	for _, base := range []uint64{128, 8192, 1 << 19, 1 << 25, 1 << 40, most - 63} {
		p := newPair(t, 5)
		for n, more := range []uint64{40, 20, 50, 20, 60, 63, 21} {
			p.put(timer(n), base+more)
		}
		for p.step(most) {
		}
	}
}

// P3.2: Step, just ahead of a timer, at it, and behind it.
func TestStepAtTheEdges(t *testing.T) {
	for _, now := range edges() {
		for _, due := range edges() {
			p := newPair(t, now)
			p.put(timer(1), due)
			if due > 0 {
				p.step(due - 1)
			}
			p.step(due)
			p.step(most)
			p.step(most)
		}
	}
}

// P3.2: one comes at its own time, not at that which is stepped to.
func TestStepIsThatTime(t *testing.T) {
	for _, due := range edges() {
		w := New(0)
		w.Put(timer(1), due)
		if k, ok := w.Step(most); k != timer(1) || !ok || w.Now() != due || w.Len() != 0 {
			t.Errorf("due at %d: %v, %t, at %d, %d left", due, k, ok, w.Now(), w.Len())
		}
	}
}

// P3.2: without a timer in time it is the time that is stepped to; but one that is over already changes nothing.
func TestStepWithout(t *testing.T) {
	w := New(100)
	w.Put(timer(1), 5000)
	for _, c := range []struct{ to, now uint64 }{
		{100, 100}, {99, 100}, {0, 100}, {101, 101}, {4999, 4999}, {4998, 4999}, {0, 4999},
	} {
		if k, ok := w.Step(c.to); k != (api.Timer{}) || ok || w.Now() != c.now || w.Len() != 1 {
			t.Errorf("Step(%d): %v, %t, at %d, %d left, want %d", c.to, k, ok, w.Now(), w.Len(), c.now)
		}
	}
	if due, ok := w.Due(timer(1)); due != 5000 || !ok {
		t.Errorf("due at %d, %t", due, ok)
	}
}

// P3.2: one that is due now does not come at a step to a time that is over already.
func TestStepToWhatIsOver(t *testing.T) {
	p := newPair(t, 100)
	p.put(timer(1), 3)
	p.step(99)
	p.step(3)
	p.step(0)
	if p.w.Len() != 1 {
		t.Error("it came")
	}
	if !p.step(100) {
		t.Error("it did not come")
	}
}

// P3.2: the greatest time is one like others.
func TestGreatestTime(t *testing.T) {
	p := newPair(t, 0)
	p.put(timer(1), most)
	p.put(timer(2), most-1)
	p.step(most - 2)
	p.step(most)
	p.step(most)
	p.put(timer(3), 0)
	p.put(timer(4), most)
	p.step(most - 1)
	p.step(most)
	p.step(most)
	p.step(most)
}

// P3.2, R5: of a Wheel that is nil.
func TestNil(t *testing.T) {
	var w *Wheel
	for _, n := range edges() {
		if e := w.Put(timer(1), n); e != api.ErrArg {
			t.Errorf("Put: %v", e)
		}
		if k, ok := w.Step(n); k != (api.Timer{}) || ok {
			t.Errorf("Step: %v, %t", k, ok)
		}
	}
	for _, k := range []api.Timer{{}, timer(1)} {
		if w.Cancel(k) {
			t.Error("Cancel")
		}
		if due, ok := w.Due(k); due != 0 || ok {
			t.Errorf("Due: %d, %t", due, ok)
		}
	}
	if due, ok := w.Next(); due != 0 || ok {
		t.Errorf("Next: %d, %t", due, ok)
	}
	if w.Now() != 0 || w.Len() != 0 {
		t.Errorf("Now, Len: %d, %d", w.Now(), w.Len())
	}
}

// P3.3: those of one time come as they were put, though some were put from farther than others.
func TestTurnOfOneTime(t *testing.T) {
	for _, due := range edges() {
		w := New(0)
		var want []item
		put := 0
		for _, now := range edges() {
			if now > due {
				break
			}
			if now < due {
				if k, ok := w.Step(now); ok {
					t.Fatalf("due at %d, at %d came %v", due, now, k)
				}
			}
			w.Put(timer(put), due)
			want = append(want, item{timer(put), due})
			put++
		}
		if got := drain(w, due); !slices.Equal(got, want) {
			t.Errorf("due at %d: %v, want %v", due, got, want)
		}
	}
}

// P3.3: all that are due come, in the turn of their times, and then in that in which they were put.
func TestTurn(t *testing.T) {
	var all []item
	for round := range 3 {
		for i, due := range edges() {
			all = append(all, item{api.Timer{Kind: round, Id: i}, due})
		}
	}
	slices.Reverse(all[:len(edges())])
	for _, now := range edges() {
		for _, to := range edges() {
			w := New(now)
			var want []item
			for _, one := range all {
				w.Put(one.timer, one.due)
				if one.due = max(one.due, now); one.due <= to {
					want = append(want, one)
				}
			}
			slices.SortStableFunc(want, func(a, b item) int { return cmp.Compare(a.due, b.due) })
			if got := drain(w, to); !slices.Equal(got, want) {
				t.Fatalf("from %d to %d: %v, want %v", now, to, got, want)
			}
			if w.Now() != max(now, to) || w.Len() != len(all)-len(want) {
				t.Fatalf("from %d to %d: it is %d, %d left", now, to, w.Now(), w.Len())
			}
		}
	}
}

// chance is a time of any length, often near the times that there are.
func chance(r *rand.Rand, now uint64) uint64 {
	some := r.Uint64() >> r.Intn(64)
	switch r.Intn(4) {
	case 0:
		return some
	case 1:
		return now - some
	case 2:
		return most - some
	}
	return now + some
}

// P3.3: in one go, or in many, also of steps to times that are over already.
func TestOneGoOrMany(t *testing.T) {
	for seed := range int64(300) {
		r := rand.New(rand.NewSource(seed))
		now := chance(r, 0)
		end := max(now, chance(r, now))
		once, often := New(now), New(now)
		for n := range 60 {
			due := chance(r, now)
			once.Put(timer(n), due)
			often.Put(timer(n), due)
		}
		var got []item
		for range 200 {
			to := often.Now() + uint64(r.Intn(100))
			if r.Intn(3) == 0 {
				to = chance(r, often.Now())
			}
			got = append(got, drain(often, min(to, end))...)
		}
		got = append(got, drain(often, end)...)
		if want := drain(once, end); !slices.Equal(got, want) {
			t.Fatalf("seed %d: in many goes %v, in one %v", seed, got, want)
		}
		if once.Now() != end || often.Now() != end || once.Len() != often.Len() {
			t.Fatalf("seed %d: it is %d, and %d, want %d, with %d and %d left", seed, once.Now(), often.Now(), end, once.Len(), often.Len())
		}
	}
}

// P3.1 to P3.3, and the automaton's P2: whatever is asked, it is as the chapter's words have it, and time never goes back.
func TestAsTheModel(t *testing.T) {
	for seed := range int64(400) {
		r := rand.New(rand.NewSource(seed))
		p := newPair(t, chance(r, 0)>>r.Intn(40))
		for range 400 {
			was := p.w.Now()
			k := api.Timer{Kind: r.Intn(2), Id: r.Intn(20)}
			switch r.Intn(8) {
			case 0, 1, 2:
				p.put(k, was+r.Uint64()>>(20+r.Intn(44)))
			case 3:
				p.put(k, chance(r, was))
			case 4:
				p.cancel(k)
			case 5:
				p.step(was + uint64(r.Intn(200)))
			case 6:
				p.step(was + r.Uint64()>>(20+r.Intn(44)))
			case 7:
				p.step(chance(r, 0) >> r.Intn(40))
			}
			p.lookAt(k)
			if p.w.Now() < was {
				t.Fatalf("seed %d: it was %d, and is %d", seed, was, p.w.Now())
			}
		}
	}
}

// P1: many timers of one time, of one slot, and of one that is far come and are cancelled in no time.
func TestMany(t *testing.T) {
	const many = 50000
	for _, apart := range []uint64{0, 1, 50} {
		for _, base := range []uint64{10, 1 << 20, 1 << 50} {
			w := New(0)
			for n := range many {
				w.Put(timer(n), base+apart*uint64(n))
			}
			for n := 1; n < many; n += 2 {
				w.Cancel(timer(n))
			}
			for n := 0; n < many; n += 2 {
				if k, ok := w.Step(most); k != timer(n) || !ok {
					t.Fatalf("step: %v, %t, want the timer %d", k, ok, n)
				}
			}
			if w.Len() != 0 {
				t.Errorf("%d left", w.Len())
			}
		}
	}
}

// R4: a wheel plays no part at another one.
func TestWheelsAreApart(t *testing.T) {
	a, b := New(0), New(0)
	a.Put(timer(1), 5)
	b.Put(timer(1), 70)
	a.Step(100)
	a.Step(100)
	if due, ok := b.Due(timer(1)); due != 70 || !ok || b.Now() != 0 || b.Len() != 1 {
		t.Errorf("the other one: due at %d, %t, at %d, %d timers", due, ok, b.Now(), b.Len())
	}
}

// Nothing is kept of timers that came or were cancelled.
func TestNothingIsKept(t *testing.T) {
	w := New(0)
	for i, due := range edges() {
		w.Put(timer(i), due)
	}
	for i := 0; i < len(edges()); i += 3 {
		w.Cancel(timer(i))
	}
	drain(w, most)
	if len(w.timers) != 0 || w.near != [levels][slots]list{} || w.far != (list{}) {
		t.Error("something is kept")
	}
}
