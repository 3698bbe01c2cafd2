package dep

import (
	"math/rand"
	"slices"
	"testing"

	"porpoise/api"
	"porpoise/batch"
	"porpoise/breaker"
	"porpoise/conf"
)

// anyConf is a configuration of chance that may be, whose numbers are small, so that much happens soon.
func anyConf(t *testing.T, chance *rand.Rand) api.Conf {
	t.Helper()
	c := api.Conf{
		Mode: api.Pool, Pool: 1 + chance.Intn(3), Queue: chance.Intn(3), FbMax: chance.Intn(api.MaxFb + 1), Chain: chance.Intn(api.MaxChain + 1),
		Timeout: 1 + uint64(chance.Intn(20)), FbTimeout: 1 + uint64(chance.Intn(8)), Volume: 1 + chance.Intn(5), Percent: chance.Intn(101),
		Sleep: uint64(chance.Intn(15)), Buckets: 1 + chance.Intn(api.MaxBuckets), Width: 1 + uint64(chance.Intn(12)),
	}
	switch chance.Intn(8) {
	case 0:
		c.Force = 1 + chance.Intn(2)
	case 1:
		c.Pool, c.Queue = 1+chance.Intn(api.MaxPool), chance.Intn(api.MaxQueue+1)
	case 2:
		c.Timeout, c.FbTimeout, c.Sleep, c.Width = api.MaxTicks, api.MaxTicks, api.MaxTicks, api.MaxTicks
	}
	if chance.Intn(3) == 0 {
		c = semaphore(c, 1+chance.Intn(3))
	}
	if _, e := conf.Check(c); e != api.OK {
		t.Fatalf("%+v may not be", c)
	}
	return c
}

// anyBatch is a batch of chance of an id; a few are wrong.
func anyBatch(chance *rand.Rand, id int) batch.Batch {
	b := batch.One(id, chance.Intn(3))
	for range chance.Intn(4) {
		b, _ = batch.Add(b, id+100*(1+chance.Intn(9)), chance.Intn(4), api.MaxBatch)
	}
	switch chance.Intn(20) {
	case 0:
		b.Args = append(b.Args, 7)
	case 1:
		b.Members[chance.Intn(len(b.Members))].At = ends()[chance.Intn(len(ends()))]
	case 2:
		b.Members = nil
	case 3:
		b.Args = nil
	}
	return b
}

// anyVals are mostly as many values as a call has arguments.
func (p pair) anyVals(chance *rand.Rand, id int) []int {
	n := chance.Intn(5)
	if l := p.m.lives[id]; l != nil && chance.Intn(5) > 0 {
		n = len(l.b.Args)
	}
	var vals []int
	for range n {
		vals = append(vals, chance.Intn(1000))
	}
	return vals
}

// P2, P17.1 to P17.4: whatever comes, in whatever turn, all is as the chapter's words have it.
func TestAsTheModel(t *testing.T) {
	for seed := range int64(1500) {
		chance := rand.New(rand.NewSource(seed))
		p := newPair(t, anyConf(t, chance))
		now, back := uint64(chance.Intn(50)), chance.Intn(3) == 0
		for range 150 {
			now += uint64(chance.Intn(4))
			at := now
			if back && chance.Intn(6) == 0 {
				at -= min(at, uint64(chance.Intn(60)))
			}
			id := 1 + chance.Intn(9)
			switch chance.Intn(16) {
			case 0, 1, 2, 3:
				p.offer(at, anyBatch(chance, id))
			case 4, 5:
				p.pick(at)
			case 6, 7, 8:
				p.answer(at, id, chance.Intn(2) == 0, p.anyVals(chance, id)...)
			case 9, 10, 11, 12:
				p.fallback(at, id, 1+chance.Intn(api.MaxChain), chance.Intn(2) == 0, p.anyVals(chance, id)...)
			case 13, 14:
				p.late(at, id)
			case 15:
				p.snap(at)
			}
		}
		p.snap(now)
	}
}

// P1, P2: numbers at their worst, as times, ids, steps and in batches.
func TestAtAllArguments(t *testing.T) {
	times := []uint64{0, 1, 5, 1<<32 - 1, 1 << 32, api.MaxTicks, 1 << 63, most - 1, most}
	for seed := range int64(1000) {
		chance := rand.New(rand.NewSource(seed))
		p := newPair(t, anyConf(t, chance))
		someEnd := func() int { return ends()[chance.Intn(len(ends()))] }
		for range 100 {
			now, id, step := times[chance.Intn(len(times))], someEnd(), someEnd()
			if chance.Intn(2) == 0 {
				step = 1 + chance.Intn(3)
			}
			vals := make([]int, chance.Intn(3))
			switch chance.Intn(7) {
			case 0, 1:
				b := batch.Batch{Args: make([]int, chance.Intn(3))}
				for range chance.Intn(4) {
					b.Members = append(b.Members, batch.Member{Id: someEnd(), At: chance.Intn(3)})
				}
				p.offer(now, b)
			case 2:
				p.pick(now)
			case 3:
				p.answer(now, id, chance.Intn(2) == 0, vals...)
			case 4:
				p.fallback(now, id, step, chance.Intn(2) == 0, vals...)
			case 5:
				p.late(now, id)
			case 6:
				p.snap(now)
			}
		}
	}
}

// step is one of the things that may happen to three calls.
func (p pair) step(now uint64, way int) {
	p.t.Helper()
	switch id := 1 + way%3; way / 3 {
	case 0:
		p.offer(now, batch.One(id, 5))
	case 1:
		p.answer(now, id, true, 9)
	case 2:
		p.answer(now, id, false)
	case 3:
		p.late(now, id)
	case 4:
		p.fallback(now, id, 1, id == 1, 9)
	case 5:
		p.pick(now)
	}
}

// P2: all ways of four steps behind an offer, of three calls, each of which is offered, answered, late, or falls back, or one is picked.
func TestAllShortWays(t *testing.T) {
	const kinds, steps = 16, 4
	ways := 1
	for range steps {
		ways *= kinds
	}
	short := one()
	short.Volume, short.Sleep = 1, 2
	long := steady(2, 0, 2, 2)
	long.Force = api.ForceNone
	for _, c := range []api.Conf{short, long, semaphore(short, 1)} {
		for way := range ways {
			p := newPair(t, c)
			p.offer(0, batch.One(1, 5))
			for now := range uint64(steps) {
				p.step(now, way%kinds)
				way /= kinds
			}
			p.snap(steps)
		}
	}
}

// P17.5, P4: never do more run, wait, or fall back than may; who is refused is so just when all is full, and a step is passed over just when no permit is left.
func TestBounds(t *testing.T) {
	for seed := range int64(500) {
		chance := rand.New(rand.NewSource(seed))
		c := anyConf(t, chance)
		workers := c.Pool + c.Sem // one of them is 0
		d := New(c)
		now := uint64(0)
		for range 300 {
			now += uint64(chance.Intn(3))
			id, step := 1+chance.Intn(20), 1+chance.Intn(api.MaxChain)
			was := d.Snap(now)
			var r Result
			switch kind := chance.Intn(10); kind {
			case 0:
				r, _ = d.Answer(now, id, chance.Intn(2) == 0, []int{1})
			case 1:
				r, _ = d.Fallback(now, id, step, false, nil)
			case 2:
				d.Pick(now)
			case 3, 4:
				r = d.Late(now, id)
			default:
				known := d.Knows(id)
				r, _ = d.Offer(now, batch.One(id, 5))
				is := d.Snap(now)
				full := was.Busy == workers && was.Waiting == c.Queue
				if refused := is.Counts[3] > was.Counts[3]; refused && (known || !full) {
					t.Fatalf("seed %d: %d was refused, of %+v, %+v", seed, id, c, was)
				}
				if came := is.Busy+is.Waiting > was.Busy+was.Waiting; came && (known || full) {
					t.Fatalf("seed %d: %d wasn't refused, of %+v, %+v", seed, id, c, was)
				}
			}
			is := d.Snap(now)
			if is.Busy > workers || is.Waiting > c.Queue || is.Falls > c.FbMax {
				t.Fatalf("seed %d: more than may: %+v, of %+v", seed, is, c)
			}
			for _, o := range r.Outs {
				// Who fails at once, while the chain goes on, found no permit.
				if o.Kind == api.Failed && c.Chain > 0 && was.Falls < c.FbMax && !wasFalling(r, was, is) {
					t.Fatalf("seed %d: %+v, though there was a permit: %+v, of %+v", seed, o, was, c)
				}
			}
		}
	}
}

// wasFalling tells whether a result may be that of a call that fell back already, and so was at the end of its chain.
func wasFalling(r Result, was, is Snap) bool {
	for kind := 1; kind < 5; kind++ { // a first failure is counted
		if is.Counts[kind] > was.Counts[kind] {
			return false
		}
	}
	return true
}

// world is a dependency, a clock, the timers that are set, and what came of commands.
type world struct {
	t      *testing.T
	d      *Dep
	chance *rand.Rand
	now    uint64
	timers map[int]uint64
	outs   map[int]int
}

// do does what is told: a timer that is set isn't set, and one that is stopped is.
func (w *world) do(r Result) {
	w.t.Helper()
	for _, a := range r.Acts {
		if _, there := w.timers[a.Id]; there == a.Set {
			w.t.Fatalf("at %d: %+v, and whether it is set: %t", w.now, a, there)
		}
		if a.Set {
			w.timers[a.Id] = a.Due
		} else {
			delete(w.timers, a.Id)
		}
	}
	for _, o := range r.Outs {
		w.outs[o.Id]++
		if o.At != w.now {
			w.t.Fatalf("at %d: %+v", w.now, o)
		}
	}
}

// passes lets some time pass, and each timer come in its turn.
func (w *world) passes(ticks uint64) {
	w.t.Helper()
	for range ticks {
		w.now++
		for id := range 400 {
			if due, there := w.timers[id]; there && due == w.now {
				delete(w.timers, id)
				w.do(w.d.Late(w.now, id))
			}
		}
	}
}

// happens lets something happen to an elder call.
func (w *world) happens(id int) {
	w.t.Helper()
	ok := w.chance.Intn(2) == 0
	vals := make([]int, 1+w.chance.Intn(2))
	var r Result
	switch w.chance.Intn(5) {
	case 0, 1:
		r, _ = w.d.Answer(w.now, id, ok, vals)
	case 2:
		r, _ = w.d.Pick(w.now)
	case 3:
		r, _ = w.d.Fallback(w.now, id, 1+w.chance.Intn(3), ok, vals)
	case 4:
		w.passes(uint64(w.chance.Intn(4)))
	}
	w.do(r)
}

// P17.5, P3: each command has one outcome at most, whoever answers, and one just, when its call's time is over; then nobody's timer is set.
func TestOneOutcome(t *testing.T) {
	for seed := range int64(400) {
		chance := rand.New(rand.NewSource(seed))
		c := anyConf(t, chance)
		c.Timeout, c.FbTimeout = 1+c.Timeout%20, 1+c.FbTimeout%8
		w := &world{t: t, d: New(c), chance: chance, timers: map[int]uint64{}, outs: map[int]int{}}
		next := 1
		bounds := map[int]uint64{}
		for range 60 {
			b := many(next, make([]int, 1+chance.Intn(2))...)
			r, e := w.d.Offer(w.now, b)
			if e != api.OK {
				t.Fatalf("seed %d: the error %d", seed, e)
			}
			w.do(r)
			for _, m := range b.Members {
				bounds[m.Id] = w.now + conf.Bound(c)
				next++
			}
			for range chance.Intn(5) {
				w.happens(max(1, next-1-chance.Intn(8)))
			}
			for id, bound := range bounds {
				if n := w.outs[id]; n > 1 || n == 0 && w.now >= bound {
					t.Fatalf("seed %d: at %d %d has %d outcomes, its bound is %d", seed, w.now, id, n, bound)
				}
			}
		}
		w.passes(conf.Bound(c))
		for id := 1; id < next; id++ {
			if w.outs[id] != 1 {
				t.Fatalf("seed %d: %d has %d outcomes", seed, id, w.outs[id])
			}
		}
		if len(w.timers) > 0 {
			t.Fatalf("seed %d: the timers %v are set still", seed, w.timers)
		}
	}
}

// P17.5: what comes late for a call that is over changes nothing but who holds what; nobody's outcome, no count, and no breaker.
func TestLateChangesNothingElse(t *testing.T) {
	for seed := range int64(400) {
		chance := rand.New(rand.NewSource(seed))
		c := steady(3, 1, 4, 3)
		c.Force, c.Volume = api.ForceNone, 1+chance.Intn(4)
		d := New(c)
		var ids []int
		for id := 1; id <= 3; id++ {
			d.Offer(0, batch.One(id, 5))
			d.Late(10, id)
			if d.Knows(id) {
				ids = append(ids, id)
			}
		}
		for _, id := range ids {
			for range 5 {
				d.Late(20, id)
			}
		}
		was := d.Snap(20)
		for _, id := range ids {
			for _, step := range chance.Perm(4) {
				now := 20 + uint64(chance.Intn(5))
				var r Result
				if step == 0 {
					r, _ = d.Answer(now, id, chance.Intn(2) == 0, []int{1})
				} else {
					r, _ = d.Fallback(now, id, step, chance.Intn(2) == 0, []int{1})
				}
				is := d.Snap(24)
				if !alike(r, Result{}) || is.Counts != was.Counts || is.Breaker != was.Breaker || is.All != was.All {
					t.Fatalf("seed %d: told %+v; %+v became %+v", seed, r, was, is)
				}
			}
			if d.Knows(id) {
				t.Fatalf("seed %d: %d is known still", seed, id)
			}
		}
		if s := d.Snap(24); s.Busy != 0 || s.Waiting != 0 || s.Falls != 0 || s.Calls != 0 {
			t.Fatalf("seed %d: at the end %+v", seed, s)
		}
	}
}

// P6: of many calls there is one probe at a time: while the breaker is half open nobody else gets a worker.
func TestOneProbeAtATime(t *testing.T) {
	for seed := range int64(400) {
		chance := rand.New(rand.NewSource(seed))
		c := touchy()
		c.Pool, c.Sleep, c.FbMax = 4, uint64(chance.Intn(6)), chance.Intn(3)
		p := newPair(t, c)
		now := uint64(0)
		for range 120 {
			now += uint64(chance.Intn(4))
			id := 1 + chance.Intn(12)
			switch chance.Intn(8) {
			case 0, 1:
				p.answer(now, id, chance.Intn(3) > 0, 1)
			case 2:
				p.late(now, id)
			case 3:
				p.pick(now)
			case 4:
				p.fallback(now, id, 1, chance.Intn(2) == 0, 1)
			default:
				was, in := p.d.State(), p.d.Busy()+len(p.d.Waiting())
				p.offer(now, batch.One(id, 5))
				if came := p.d.Busy()+len(p.d.Waiting()) > in; came && was == breaker.Half {
					t.Fatalf("seed %d: %d came while a probe was under way", seed, id)
				}
			}
		}
	}
}

// R4: a dependency plays no part at another one, also of one configuration.
func TestDepsAreApart(t *testing.T) {
	c := touchy()
	a, b := newPair(t, c), newPair(t, c)
	a.offers(0, 1, set(1, 10))
	a.offers(0, 2, set(2, 10))
	a.offers(0, 3, set(3, 10))
	a.answers(1, 1, false, nil, stop(1), set(1, 6))
	b.stands(1, 0, 0, 0, 0, breaker.Closed, [5]uint64{})
	b.offers(1, 1, set(1, 11))
	b.answers(2, 1, true, []int{1}, stop(1), success(1, 1, 2))
	a.stands(2, 1, 1, 1, 3, breaker.Open, [5]uint64{0, 1, 0, 0, 0})
	b.stands(2, 0, 0, 0, 0, breaker.Closed, [5]uint64{1, 0, 0, 0, 0})
}

// P2, R1: what is refused, and what is asked alone, changes nothing.
func TestRefusalsChangeNothing(t *testing.T) {
	for seed := range int64(300) {
		chance := rand.New(rand.NewSource(seed))
		c := anyConf(t, chance)
		d, same := New(c), New(c)
		now := uint64(0)
		for range 60 {
			now += uint64(chance.Intn(3))
			id := 1 + chance.Intn(6)
			for _, wrong := range ends() {
				if wrong < 1 {
					d.Offer(most, batch.One(wrong, 5))
					d.Answer(most, wrong, true, []int{1})
					d.Fallback(most, id, wrong, true, []int{1})
				}
				if d.Knows(wrong) && wrong > 0 {
					d.Offer(most, batch.One(wrong, 5))
				} else {
					d.Late(most, wrong)
				}
				d.Fallback(most, wrong, 4, false, nil)
			}
			if d.Busy() == c.Pool+c.Sem {
				d.Pick(most)
			}
			kind, step, ok := chance.Intn(5), 1+chance.Intn(3), chance.Intn(2) == 0
			do := func(d *Dep) (r Result, e api.Errno) {
				switch kind {
				case 0, 1:
					r, e = d.Offer(now, batch.One(id, 5))
				case 2:
					r, e = d.Answer(now, id, ok, []int{1})
				case 3:
					r, e = d.Fallback(now, id, step, ok, []int{1})
				case 4:
					r = d.Late(now, id)
				}
				return r, e
			}
			r, e := do(d)
			want, wantE := do(same)
			if !alike(r, want) || e != wantE || !slices.Equal(d.Waiting(), same.Waiting()) {
				t.Fatalf("seed %d: told %+v, %d, want %+v, %d", seed, r, e, want, wantE)
			}
		}
		if got, want := d.Snap(now), same.Snap(now); got != want {
			t.Fatalf("seed %d: %+v, want %+v", seed, got, want)
		}
	}
}
