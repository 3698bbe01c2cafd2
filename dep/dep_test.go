package dep

import (
	"math"
	"slices"
	"testing"

	"porpoise/api"
	"porpoise/batch"
	"porpoise/breaker"
	"porpoise/conf"
)

// one is a configuration of one worker, a queue of one, one permit of the fallbacks, and a chain of one, whose breaker opens at 2 of 4.
func one() api.Conf {
	return api.Conf{
		Mode: api.Pool, Pool: 1, Queue: 1, FbMax: 1, Chain: 1, Timeout: 10, FbTimeout: 5,
		Volume: 4, Percent: 50, Sleep: 20, Buckets: 2, Width: 100,
	}
}

// steady is one of some workers, whose breaker never opens.
func steady(workers, queue, permits, chain int) api.Conf {
	c := one()
	c.Pool, c.Queue, c.FbMax, c.Chain, c.Force = workers, queue, permits, chain, api.ForceClosed
	return c
}

// semaphore is a configuration alike, of the mode Semaphore.
func semaphore(c api.Conf, permits int) api.Conf {
	c.Mode, c.Pool, c.Queue, c.Sem = api.Semaphore, 0, 0, permits
	return c
}

// touchy is one whose breaker opens by the first failure.
func touchy() api.Conf {
	c := one()
	c.Pool, c.Queue, c.Volume, c.Percent = 2, 2, 1, 1
	return c
}

// many is a batch of the commands 1, 2, 3 .., from a first one on, who want some arguments in turn.
func many(first int, args ...int) batch.Batch {
	b := batch.One(first, args[0])
	for i, arg := range args[1:] {
		b, _ = batch.Add(b, first+1+i, arg, api.MaxBatch)
	}
	return b
}

func set(id int, due uint64) Act { return Act{Set: true, Id: id, Due: due} }

func stop(id int) Act { return Act{Id: id} }

func success(id, val int, at uint64) api.Out {
	return api.Out{Id: id, Kind: api.Success, Val: val, At: at}
}

func fell(id, cause, val int, at uint64) api.Out {
	return api.Out{Id: id, Kind: api.Fall, Cause: cause, Val: val, At: at}
}

func failed(id, cause int, at uint64) api.Out {
	return api.Out{Id: id, Kind: api.Failed, Cause: cause, At: at}
}

// told is a result of Acts and Outs, in turn.
func told(l ...any) Result {
	var r Result
	for _, x := range l {
		switch y := x.(type) {
		case Act:
			r.Acts = append(r.Acts, y)
		case api.Out:
			r.Outs = append(r.Outs, y)
		}
	}
	return r
}

// is holds what was told against what is written out.
func (p pair) is(got, want Result) {
	p.t.Helper()
	if !alike(got, want) {
		p.t.Fatalf("told %+v, want %+v", got, want)
	}
}

func (p pair) fine(got Result, e api.Errno, l ...any) {
	p.t.Helper()
	if e != api.OK {
		p.t.Fatalf("the error %d", e)
	}
	p.is(got, told(l...))
}

// offers lets a command's call begin, and holds what is told against what is written out; the others likewise.
func (p pair) offers(now uint64, id int, l ...any) {
	p.t.Helper()
	r, e := p.offer(now, batch.One(id, 5))
	p.fine(r, e, l...)
}

func (p pair) answers(now uint64, id int, ok bool, vals []int, l ...any) {
	p.t.Helper()
	r, e := p.answer(now, id, ok, vals...)
	p.fine(r, e, l...)
}

func (p pair) falls(now uint64, id, step int, ok bool, vals []int, l ...any) {
	p.t.Helper()
	r, e := p.fallback(now, id, step, ok, vals...)
	p.fine(r, e, l...)
}

func (p pair) picks(now uint64) {
	p.t.Helper()
	r, e := p.pick(now)
	p.fine(r, e)
}

func (p pair) comes(now uint64, id int, l ...any) {
	p.t.Helper()
	p.is(p.late(now, id), told(l...))
}

// refuses holds an error, beside which nothing is told.
func (p pair) refuses(r Result, e, want api.Errno) {
	p.t.Helper()
	if e != want || len(r.Acts)+len(r.Outs) > 0 {
		p.t.Fatalf("told %+v, %d, want nothing, %d", r, e, want)
	}
}

// stands holds how all stands against what is written out; Calls are how many are known.
func (p pair) stands(now uint64, busy, waiting, falls, calls, state int, counts [5]uint64) {
	p.t.Helper()
	s := p.snap(now)
	s.Half, s.All = 0, 0
	if want := (Snap{Busy: busy, Waiting: waiting, Falls: falls, Calls: calls, Breaker: state, Counts: counts}); s != want {
		p.t.Fatalf("Snap(%d) = %+v, want %+v", now, s, want)
	}
}

// ends are numbers at their worst.
func ends() []int {
	return []int{
		math.MinInt, math.MinInt + 1, math.MinInt32, -1 << 32, -256, -4, -3, -2, -1, 0, 1, 2, 3, 4, 5, 8, 9, 255, 256, 257,
		1000, 1001, math.MaxInt32, 1 << 32, 1<<32 + 1, 1<<32 + 2, math.MaxInt - 1, math.MaxInt,
	}
}

// P17.1: New of all configurations that may be, and a dependency without calls.
func TestNew(t *testing.T) {
	for _, c := range []api.Conf{one(), touchy(), steady(8, 8, 4, 3), steady(1, 0, 0, 0), semaphore(one(), 8), semaphore(one(), 1)} {
		p := newPair(t, c)
		p.stands(0, 0, 0, 0, 0, breaker.Closed, [5]uint64{})
		if s := p.snap(most); s != (Snap{Breaker: breaker.Closed}) {
			t.Errorf("a new one stands as %+v", s)
		}
		for _, id := range ends() {
			p.knows(id)
		}
	}
}

// P17.1: New of what may not be is nil, each field by itself.
func TestNewOfWhatMayNotBe(t *testing.T) {
	wrong := func(change func(*api.Conf)) {
		t.Helper()
		for _, c := range []api.Conf{one(), semaphore(one(), 3)} {
			change(&c)
			if _, e := conf.Check(c); e != api.ErrArg {
				t.Fatalf("%+v may be", c)
			}
			if New(c) != nil {
				t.Errorf("New(%+v) isn't nil", c)
			}
		}
	}
	wrong(func(c *api.Conf) { *c = api.Conf{} })
	for _, n := range []int{math.MinInt, -1, 1001, 1 << 32, math.MaxInt} {
		wrong(func(c *api.Conf) { c.Mode = n })
		wrong(func(c *api.Conf) { c.Pool = n })
		wrong(func(c *api.Conf) { c.Queue = n })
		wrong(func(c *api.Conf) { c.Sem = n })
		wrong(func(c *api.Conf) { c.FbMax = n })
		wrong(func(c *api.Conf) { c.Chain = n })
		wrong(func(c *api.Conf) { c.Volume = n })
		wrong(func(c *api.Conf) { c.Percent = n })
		wrong(func(c *api.Conf) { c.Buckets = n })
		wrong(func(c *api.Conf) { c.Batch = n })
		wrong(func(c *api.Conf) { c.Force = n })
	}
	for _, n := range []uint64{api.MaxTicks + 1, 1 << 63, most} {
		wrong(func(c *api.Conf) { c.Timeout = n })
		wrong(func(c *api.Conf) { c.FbTimeout = n })
		wrong(func(c *api.Conf) { c.Sleep = n })
		wrong(func(c *api.Conf) { c.Width = n })
		wrong(func(c *api.Conf) { c.Window = n })
	}
	wrong(func(c *api.Conf) { c.Timeout = 0 })
	wrong(func(c *api.Conf) { c.FbTimeout = 0 })
	wrong(func(c *api.Conf) { c.Width = 0 })
	wrong(func(c *api.Conf) { c.Volume = 0 })
	wrong(func(c *api.Conf) { c.Buckets = 0 })
	wrong(func(c *api.Conf) { c.Buckets = 9 })
	wrong(func(c *api.Conf) { c.FbMax = 5 })
	wrong(func(c *api.Conf) { c.Chain = 4 })
	wrong(func(c *api.Conf) { c.Percent = 101 })
	wrong(func(c *api.Conf) { c.Force = 3 })
	wrong(func(c *api.Conf) { c.Window = 1 })
	wrong(func(c *api.Conf) { c.Batch = 1 })
	none := one()
	none.Pool = 0
	if New(none) != nil || New(semaphore(one(), 0)) != nil {
		t.Error("there is one without workers, or permits")
	}
}

// P17.1: a call runs at once, if there is a worker; its timer is set; then it is known.
func TestOffer(t *testing.T) {
	p := newPair(t, one())
	p.offers(3, 1, set(1, 13))
	p.stands(3, 1, 0, 0, 1, breaker.Closed, [5]uint64{})
	if !p.d.Knows(1) || !p.d.Runs(1) {
		t.Error("it isn't known, or doesn't run")
	}
	p.offers(4, 2, set(2, 14))
	p.stands(4, 1, 1, 0, 2, breaker.Closed, [5]uint64{})
	if !p.d.Knows(2) || p.d.Runs(2) {
		t.Error("the second one isn't known, or runs")
	}
}

// P17.1: a batch of many members goes by its first one, whatever the others are.
func TestOfferOfMany(t *testing.T) {
	p := newPair(t, one())
	r, e := p.offer(3, many(7, 5, 6, 5))
	p.fine(r, e, set(7, 13))
	for _, id := range []int{8, 9} {
		if p.d.Knows(id) {
			t.Errorf("the member %d is known as a call", id)
		}
	}
	p.offers(3, 8, set(8, 13))
	p.answers(5, 7, true, []int{50, 60}, stop(7), success(7, 50, 5), success(8, 60, 5), success(9, 50, 5))
	strange := batch.Batch{Args: []int{1}, Members: []batch.Member{{Id: 3, At: 0}, {Id: -5, At: 0}, {Id: 0, At: 0}, {Id: 3, At: 0}}}
	p.picks(5)
	p.answers(6, 8, true, []int{1}, stop(8), success(8, 1, 6))
	r, e = p.offer(7, strange)
	p.fine(r, e, set(3, 17))
	p.answers(8, 3, true, []int{4}, stop(3), success(3, 4, 8), success(-5, 4, 8), success(0, 4, 8), success(3, 4, 8))
}

// P17.1: a batch without members, or whose id is below 1, is none, ahead of all else; nothing changes.
func TestOfferOfNoBatch(t *testing.T) {
	p := newPair(t, one())
	refuse := func(b batch.Batch) {
		t.Helper()
		r, e := p.offer(5, b)
		p.refuses(r, e, api.ErrArg)
	}
	for range 3 {
		refuse(batch.Batch{})
		refuse(batch.Batch{Args: []int{1}})
		refuse(batch.Batch{Args: []int{1, 2}, Members: []batch.Member{}})
		for _, id := range ends() {
			if id < 1 {
				refuse(batch.One(id, 5))
				refuse(batch.Batch{Args: []int{1}, Members: []batch.Member{{Id: id}, {Id: 4}}})
			}
		}
	}
	p.stands(5, 0, 0, 0, 0, breaker.Closed, [5]uint64{})
	c := touchy()
	c.Sleep = 0
	p = newPair(t, c)
	p.offers(0, 1, set(1, 10))
	p.answers(0, 1, false, nil, stop(1), set(1, 5))
	refuse(batch.One(0, 5)) // it isn't the probe
	p.stands(0, 0, 0, 1, 1, breaker.Open, [5]uint64{0, 1, 0, 0, 0})
}

// P17.1: any number from 1 on is an id.
func TestOfferOfAnyId(t *testing.T) {
	for _, id := range ends() {
		if id < 1 {
			continue
		}
		p := newPair(t, one())
		p.offers(5, id, set(id, 15))
		r, e := p.offer(5, batch.One(id, 6))
		p.refuses(r, e, api.ErrThere)
		p.answers(6, id, false, nil, stop(id), set(id, 11))
		p.falls(7, id, 1, true, []int{4}, stop(id), fell(id, api.Error, 4, 7))
	}
}

// P17.1, P17.4: an id that is known may not come again: that waits, runs, falls back, or is over and holds a worker or a permit.
func TestOfferOfOneThatIsKnown(t *testing.T) {
	p := newPair(t, steady(1, 1, 2, 2))
	there := func(id int) {
		t.Helper()
		r, e := p.offer(8, many(id, 1, 2, 3))
		p.refuses(r, e, api.ErrThere)
	}
	p.offers(0, 1, set(1, 10))
	p.offers(0, 2, set(2, 10))
	there(1)
	there(2)
	p.comes(10, 1, set(1, 15))
	there(1)
	p.falls(11, 1, 1, true, []int{7}, stop(1), fell(1, api.Timeout, 7, 11))
	there(1) // it is over, and has its worker still
	p.stands(11, 1, 1, 0, 2, breaker.Closed, [5]uint64{0, 0, 1, 0, 0})
	p.answers(12, 1, true, []int{9})
	if p.d.Knows(1) {
		t.Error("it is over, holds nothing, and is known")
	}
	p.picks(12)
	p.answers(12, 2, false, nil, stop(2), set(2, 17))
	p.comes(17, 2, set(2, 22))
	p.falls(18, 2, 2, true, []int{3}, stop(2), fell(2, api.Error, 3, 18))
	there(2) // it is over, and its first fallback has a permit still
	p.stands(18, 0, 0, 1, 1, breaker.Closed, [5]uint64{0, 1, 1, 0, 0})
	p.falls(19, 2, 1, true, []int{3})
	if p.d.Knows(2) {
		t.Error("it is over, holds nothing, and is known")
	}
	p.offers(20, 1, set(1, 30))
	p.offers(20, 2, set(2, 30))
	p.stands(20, 1, 1, 0, 2, breaker.Closed, [5]uint64{0, 1, 1, 0, 0})
}

// P17.4: one that is over is known as long as it holds a worker, and its fallbacks' permits, in whatever turn they are freed.
func TestKnownToTheLast(t *testing.T) {
	for _, turn := range [][]int{{0, 1, 2, 3}, {0, 3, 2, 1}, {3, 1, 0, 2}, {2, 3, 1, 0}, {1, 0, 3, 2}, {3, 2, 1, 0}} {
		p := newPair(t, steady(1, 0, 4, 3))
		p.offers(0, 5, set(5, 10))
		p.comes(10, 5, set(5, 15))
		p.comes(15, 5, set(5, 20))
		p.comes(20, 5, set(5, 25))
		p.comes(25, 5, failed(5, api.Timeout, 25))
		p.stands(25, 1, 0, 3, 1, breaker.Closed, [5]uint64{0, 0, 1, 0, 0})
		for _, step := range turn {
			if !p.d.Knows(5) {
				t.Fatalf("of %v it is known no more ahead of %d", turn, step)
			}
			r, e := p.offer(26, batch.One(5, 5))
			p.refuses(r, e, api.ErrThere)
			p.comes(26, 5)
			if step == 0 {
				p.answers(26, 5, step%2 == 0, []int{1})
			} else {
				p.falls(26, 5, step, step%2 == 0, []int{1})
			}
		}
		if p.d.Knows(5) {
			t.Errorf("of %v it is known to the end", turn)
		}
		p.stands(26, 0, 0, 0, 0, breaker.Closed, [5]uint64{0, 0, 1, 0, 0})
		p.offers(27, 5, set(5, 37))
	}
}

// P17.1: who finds all workers busy, and the queue full, is refused, and counted so; it falls.
func TestOfferRefused(t *testing.T) {
	p := newPair(t, one())
	p.offers(1, 1, set(1, 11))
	p.offers(1, 2, set(2, 11))
	p.offers(1, 3, set(3, 6)) // it falls back
	p.stands(1, 1, 1, 1, 3, breaker.Closed, [5]uint64{0, 0, 0, 1, 0})
	r, e := p.offer(2, many(4, 7, 8))
	p.fine(r, e, failed(4, api.Rejected, 2), failed(5, api.Rejected, 2)) // no permit is left
	p.stands(2, 1, 1, 1, 3, breaker.Closed, [5]uint64{0, 0, 0, 2, 0})
	p.falls(3, 3, 1, true, []int{9}, stop(3), fell(3, api.Rejected, 9, 3))
	p.answers(3, 1, true, []int{1}, stop(1), success(1, 1, 3))
	// The queue is full, and a worker is left: the first one runs, and the one that comes waits.
	p.offers(4, 6, set(6, 14))
	if !p.d.Runs(2) || p.d.Runs(6) {
		t.Error("2 doesn't run, or 6 does")
	}
	p.answers(5, 2, true, []int{2}, stop(2), success(2, 2, 5))
}

// P17.1, P4: pools and queues of each size, and permits: so many run, so many wait, and the others are refused.
func TestSizes(t *testing.T) {
	each := func(c api.Conf, workers, queue int) {
		p := newPair(t, c)
		for id := 1; id <= workers+queue; id++ {
			p.offers(1, id, set(id, 11))
			if p.d.Runs(id) != (id <= workers) {
				t.Fatalf("of %+v %d runs: %t", c, id, p.d.Runs(id))
			}
		}
		p.stands(1, workers, queue, 0, workers+queue, breaker.Closed, [5]uint64{})
		p.offers(1, 50, failed(50, api.Rejected, 1))
		p.stands(1, workers, queue, 0, workers+queue, breaker.Closed, [5]uint64{0, 0, 0, 1, 0})
		for id := 1; id <= workers+queue; id++ {
			r, e := p.answer(2, id, true, 1)
			p.fine(r, e, stop(id), success(id, 1, 2))
			if r, e := p.pick(2); (e == api.OK) != (id <= queue) || !alike(r, Result{}) {
				t.Fatalf("of %+v, when %d had ended, Pick = %+v, %d", c, id, r, e)
			}
		}
		p.stands(2, 0, 0, 0, 0, breaker.Closed, [5]uint64{uint64(workers + queue), 0, 0, 1, 0})
	}
	for workers := 1; workers <= api.MaxPool; workers++ {
		for queue := range api.MaxQueue + 1 {
			each(steady(workers, queue, 0, 3), workers, queue)
		}
	}
	for permits := 1; permits <= api.MaxSem; permits++ {
		each(semaphore(steady(1, 0, 0, 0), permits), permits, 0)
	}
}

// P17.2: the first one that waits runs, if a worker is left; else there is none.
func TestPick(t *testing.T) {
	p := newPair(t, steady(1, 2, 0, 0))
	none := func(now uint64) {
		t.Helper()
		r, e := p.pick(now)
		p.refuses(r, e, api.ErrNone)
	}
	none(0)
	p.offers(0, 1, set(1, 10))
	none(0) // nobody waits
	p.offers(1, 2, set(2, 11))
	p.offers(2, 3, set(3, 12))
	none(2) // no worker is left
	p.answers(3, 1, true, []int{1}, stop(1), success(1, 1, 3))
	p.picks(3)
	if !p.d.Runs(2) || p.d.Runs(3) {
		t.Error("2 doesn't run, or 3 does")
	}
	none(3)
	p.answers(4, 2, false, nil, stop(2), failed(2, api.Error, 4))
	p.picks(most)
	p.answers(5, 3, true, []int{1}, stop(3), success(3, 1, 5))
	none(0)
	s := newPair(t, semaphore(one(), 1))
	s.offers(0, 1, set(1, 10))
	r, e := s.pick(0)
	s.refuses(r, e, api.ErrNone)
}

// P17.2: how long it took goes from its offer on, also while it waited, in the buckets of the answers.
func TestHowLongItTook(t *testing.T) {
	p := newPair(t, steady(1, 1, 1, 1))
	half := func(now, half, all uint64) {
		t.Helper()
		if s := p.snap(now); s.Half != half || s.All != all {
			t.Fatalf("at %d: %d, %d, want %d, %d", now, s.Half, s.All, half, all)
		}
	}
	half(0, 0, 0)
	p.offers(5, 1, set(1, 15))
	p.offers(5, 2, set(2, 15))
	p.answers(8, 1, true, []int{1}, stop(1), success(1, 1, 8))
	half(8, 3, 3)
	p.picks(8)
	p.answers(105, 2, true, []int{1}, stop(2), success(2, 1, 105))
	half(105, 3, 127)
	p.offers(106, 3, set(3, 116))
	p.answers(106, 3, true, []int{1}, stop(3), success(3, 1, 106))
	half(106, 3, 127) // 0, 3 and 100
	p.offers(107, 4, set(4, 117))
	p.answers(300, 4, false, nil, stop(4), set(4, 305)) // what failed plays no part
	p.falls(301, 4, 1, true, []int{1}, stop(4), fell(4, api.Error, 1, 301))
	half(199, 3, 127) // of these nothing was asked at 300
	half(200, 0, 127) // the 3 is behind
	half(300, 0, 0)
	half(199, 0, 0) // and now there was: time doesn't go back
}

// P17.4: what is told is the fiftieth of a hundred, and the longest one of all, however few took as long.
func TestPercentiles(t *testing.T) {
	c := one()
	c.Width = api.MaxTicks
	p := newPair(t, c)
	took := func(count int, ticks uint64) {
		for range count {
			p.offers(0, 1, set(1, 10))
			p.answers(ticks, 1, true, []int{1}, stop(1), success(1, 1, ticks))
		}
	}
	took(101, 2)
	took(100, 30)
	took(1, 5000)
	if s := p.snap(5000); s.Half != 3 || s.All != 8191 {
		t.Errorf("of 101 shorter ones: %+v", s)
	}
	took(1, 40)
	if s := p.snap(5000); s.Half != 31 || s.All != 8191 {
		t.Errorf("of 101 shorter ones, and 102 longer ones: %+v", s)
	}
}

// P17.2: an answer with as many values as arguments, and with too few and too many; one that isn't ok.
func TestAnswer(t *testing.T) {
	for _, b := range []batch.Batch{many(1, 5), many(1, 5, 6), many(1, 5, 6, 5), many(1, 5, 5, 5, 5), many(1, 1, 2, 3, 4)} {
		for n := range 7 {
			for _, ok := range []bool{false, true} {
				p := newPair(t, steady(1, 0, 0, 3))
				r, e := p.offer(2, b)
				p.fine(r, e, set(1, 12))
				vals := []int{10, 20, 30, 40, 50, 60, 70}[:n]
				r, e = p.answer(4, 1, ok, vals...)
				want := told(stop(1))
				counts := [5]uint64{0, 1, 0, 0, 0}
				for _, m := range b.Members {
					want.Outs = append(want.Outs, failed(m.Id, api.Error, 4))
				}
				if ok && n == len(b.Args) {
					counts = [5]uint64{1, 0, 0, 0, 0}
					for i, m := range b.Members {
						want.Outs[i] = success(m.Id, 10+10*m.At, 4)
					}
				}
				if e != api.OK {
					t.Fatalf("the error %d", e)
				}
				p.is(r, want)
				p.stands(4, 0, 0, 0, 0, breaker.Closed, counts)
			}
		}
	}
}

// P17.2, P17.3: of a batch that was wrong the values aren't split, though there are as many as arguments: it is over, and nobody has an outcome.
func TestAnswerOfWrongBatches(t *testing.T) {
	for _, at := range ends() {
		if at == 0 || at == 1 {
			continue
		}
		b := batch.Batch{Args: []int{5, 6}, Members: []batch.Member{{Id: 1}, {Id: 2, At: at}}}
		p := newPair(t, steady(1, 0, 1, 1))
		r, e := p.offer(0, b)
		p.fine(r, e, set(1, 10))
		p.answers(1, 1, true, []int{50, 60}, stop(1))
		p.stands(1, 0, 0, 0, 0, breaker.Closed, [5]uint64{1, 0, 0, 0, 0})
		r, e = p.offer(2, b)
		p.fine(r, e, set(1, 12))
		p.answers(3, 1, true, nil, stop(1), set(1, 8))
		p.falls(4, 1, 1, true, []int{50, 60}, stop(1))
		r, e = p.offer(5, b)
		p.fine(r, e, set(1, 15))
		p.comes(15, 1, set(1, 20))
		p.comes(20, 1, failed(1, api.Timeout, 20), failed(2, api.Timeout, 20))
	}
	p := newPair(t, steady(1, 0, 0, 0))
	r, e := p.offer(0, batch.Batch{Members: []batch.Member{{Id: 4}}})
	p.fine(r, e, set(4, 10))
	p.answers(1, 4, true, nil, stop(4))
	p.stands(1, 0, 0, 0, 0, breaker.Closed, [5]uint64{1, 0, 0, 0, 0})
}

// P17.2: one that doesn't run has no answer: there is none, it waits, it falls back without a worker, it was answered already.
func TestAnswerOfNone(t *testing.T) {
	p := newPair(t, steady(1, 1, 1, 1))
	none := func(id int) {
		t.Helper()
		for _, ok := range []bool{false, true} {
			for _, vals := range [][]int{nil, {1}, {1, 2}} {
				r, e := p.answer(5, id, ok, vals...)
				p.refuses(r, e, api.ErrNone)
			}
		}
	}
	for _, id := range ends() {
		none(id)
	}
	p.offers(0, 1, set(1, 10))
	p.offers(0, 2, set(2, 10))
	none(2)
	p.answers(1, 1, false, nil, stop(1), set(1, 6))
	none(1)
	none(2)
	p.falls(2, 1, 1, true, []int{1}, stop(1), fell(1, api.Error, 1, 2))
	none(1)
	p.stands(5, 0, 1, 0, 1, breaker.Closed, [5]uint64{0, 1, 0, 0, 0})
}

// P17.3: step by step, each fallback with a permit of its own, answered or not; the cause is the first one's.
func TestFallbackStepByStep(t *testing.T) {
	for chain := 1; chain <= api.MaxChain; chain++ {
		for last := 1; last <= chain; last++ {
			p := newPair(t, steady(1, 0, 4, chain))
			r, e := p.offer(0, many(1, 5, 6, 5))
			p.fine(r, e, set(1, 10))
			p.answers(1, 1, false, []int{1, 2}, stop(1), set(1, 6))
			for step := 1; step < last; step++ {
				now := uint64(10 * step)
				vals := [][]int{nil, {1}, {1, 2, 3}}[step-1]
				p.falls(now, 1, step, true, vals, stop(1), set(1, now+5))
				p.stands(now, 0, 0, 1, 1, breaker.Closed, [5]uint64{0, 1, 0, 0, 0})
			}
			p.falls(50, 1, last, true, []int{7, 8}, stop(1), fell(1, api.Error, 7, 50), fell(2, api.Error, 8, 50), fell(3, api.Error, 7, 50))
			p.stands(50, 0, 0, 0, 0, breaker.Closed, [5]uint64{0, 1, 0, 0, 0})
			if s := p.snap(50); s.Half != 0 || s.All != 0 {
				t.Errorf("what fell back took %+v", s)
			}
		}
	}
}

// P17.3: to the end of the chain: then it is over, and its members failed for the first cause.
func TestFallbackToTheEnd(t *testing.T) {
	for chain := range api.MaxChain + 1 {
		p := newPair(t, steady(1, 0, 4, chain))
		r, e := p.offer(0, many(1, 5, 6))
		p.fine(r, e, set(1, 10))
		acts := []any{set(1, 15)}
		for step := 1; step <= chain; step++ {
			if step == 1 {
				p.comes(10, 1, acts...)
			}
			acts = []any{stop(1), set(1, 15)}
			if step == chain {
				acts = []any{stop(1), failed(1, api.Timeout, 10), failed(2, api.Timeout, 10)}
			}
			p.falls(10, 1, step, false, []int{1, 2}, acts...)
		}
		if chain == 0 {
			p.comes(10, 1, failed(1, api.Timeout, 10), failed(2, api.Timeout, 10))
		}
		p.stands(10, 1, 0, 0, 1, breaker.Closed, [5]uint64{0, 0, 1, 0, 0})
		p.answers(11, 1, true, []int{1, 2})
		p.stands(11, 0, 0, 0, 0, breaker.Closed, [5]uint64{0, 0, 1, 0, 0})
	}
}

// P17.3: an id and a step that hold no permit have no fallback.
func TestFallbackOfNone(t *testing.T) {
	p := newPair(t, steady(1, 1, 2, 3))
	none := func(id, step int) {
		t.Helper()
		for _, ok := range []bool{false, true} {
			r, e := p.fallback(5, id, step, ok, 1)
			p.refuses(r, e, api.ErrNone)
		}
	}
	all := func(held ...int) {
		t.Helper()
		for _, step := range ends() {
			for _, id := range ends() {
				if id != 1 || !slices.Contains(held, step) {
					none(id, step)
				}
			}
		}
	}
	all()
	p.offers(0, 1, set(1, 10))
	p.offers(0, 2, set(2, 10))
	all()
	p.comes(10, 1, set(1, 15))
	all(1)
	p.comes(15, 1, set(1, 20))
	all(1, 2)
	p.falls(16, 1, 1, true, []int{1})
	all(2)
	p.falls(17, 1, 2, true, []int{1}, stop(1), fell(1, api.Timeout, 1, 17))
	all()
	p.stands(17, 1, 1, 0, 2, breaker.Closed, [5]uint64{0, 0, 1, 0, 0})
}

// P17.3: a timer that comes while a call waits: it is dropped, and counted; the one that runs goes on.
func TestLateOfOneThatWaits(t *testing.T) {
	p := newPair(t, steady(1, 2, 1, 1))
	p.offers(0, 1, set(1, 10))
	p.offers(1, 2, set(2, 11))
	p.offers(2, 3, set(3, 12))
	p.comes(11, 2, set(2, 16))
	p.stands(11, 1, 1, 1, 3, breaker.Closed, [5]uint64{0, 0, 1, 0, 0})
	p.comes(12, 3, failed(3, api.Timeout, 12)) // no permit is left
	p.stands(12, 1, 0, 1, 2, breaker.Closed, [5]uint64{0, 0, 2, 0, 0})
	p.answers(13, 1, true, []int{4}, stop(1), success(1, 4, 13))
	r, e := p.pick(13)
	p.refuses(r, e, api.ErrNone)
	r, e = p.answer(13, 2, true, 4)
	p.refuses(r, e, api.ErrNone)
	p.falls(14, 2, 1, true, []int{4}, stop(2), fell(2, api.Timeout, 4, 14))
}

// P17.3: the timer of one that runs, of one that was let run by Pick, and of one that was by another one's offer.
func TestLateOfOneThatRuns(t *testing.T) {
	p := newPair(t, steady(1, 1, 0, 2))
	p.offers(0, 1, set(1, 10))
	p.comes(10, 1, failed(1, api.Timeout, 10))
	p.stands(10, 1, 0, 0, 1, breaker.Closed, [5]uint64{0, 0, 1, 0, 0})
	p.offers(10, 2, set(2, 20))
	p.answers(11, 1, true, []int{4})
	p.picks(11)
	p.comes(20, 2, failed(2, api.Timeout, 20))
	p.stands(20, 1, 0, 0, 1, breaker.Closed, [5]uint64{0, 0, 2, 0, 0})
	p.offers(20, 3, set(3, 30))
	p.answers(21, 2, false, nil)
	p.offers(22, 4, set(4, 32))
	p.comes(30, 3, failed(3, api.Timeout, 30))
	p.comes(32, 4, failed(4, api.Timeout, 32))
	p.stands(32, 1, 0, 0, 1, breaker.Closed, [5]uint64{0, 0, 4, 0, 0})
}

// P17.3: the timer of one that falls back: the next step, and the elder one's permit is held still; it isn't counted again.
func TestLateOfOneThatFalls(t *testing.T) {
	p := newPair(t, steady(1, 0, 4, 3))
	p.offers(0, 1, set(1, 10))
	p.answers(4, 1, false, nil, stop(1), set(1, 9))
	for step := 2; step <= 3; step++ {
		now := uint64(9 * step)
		p.comes(now, 1, set(1, now+5))
		p.stands(now, 0, 0, step, 1, breaker.Closed, [5]uint64{0, 1, 0, 0, 0})
	}
	p.comes(40, 1, failed(1, api.Error, 40))
	p.stands(40, 0, 0, 3, 1, breaker.Closed, [5]uint64{0, 1, 0, 0, 0})
	p.comes(41, 1) // it is over
	p.stands(41, 0, 0, 3, 1, breaker.Closed, [5]uint64{0, 1, 0, 0, 0})
}

// P17.3: of one that there isn't, or that is over, a timer does nothing.
func TestLateOfNone(t *testing.T) {
	p := newPair(t, steady(1, 1, 1, 1))
	for _, id := range ends() {
		p.comes(5, id)
	}
	p.offers(0, 1, set(1, 10))
	p.comes(10, 1, set(1, 15))
	p.comes(15, 1, failed(1, api.Timeout, 15))
	for _, id := range ends() {
		p.comes(16, id)
	}
	p.stands(16, 1, 0, 1, 1, breaker.Closed, [5]uint64{0, 0, 1, 0, 0})
	p.answers(17, 1, true, []int{1})
	p.falls(17, 1, 1, true, []int{1})
	for _, id := range ends() {
		p.comes(18, id)
	}
	p.stands(18, 0, 0, 0, 0, breaker.Closed, [5]uint64{0, 0, 1, 0, 0})
}

// The words: where no permit is left for a step, it is passed over at once: at each step, of each chain.
func TestStepsArePassedOver(t *testing.T) {
	for chain := range api.MaxChain + 1 {
		for permits := range api.MaxFb + 1 {
			p := newPair(t, steady(4, 0, permits, chain))
			left := permits
			for id := 10; left > 0 && chain > 0; id++ { // others hold all of them
				p.offers(0, id, set(id, 10))
				p.answers(0, id, false, nil, stop(id), set(id, 5))
				left--
			}
			p.offers(0, 1, set(1, 10))
			p.answers(1, 1, false, nil, stop(1), failed(1, api.Error, 1))
			p.offers(1, 2, set(2, 11))
			p.comes(11, 2, failed(2, api.Timeout, 11))
			held := 0
			if chain > 0 {
				held = permits
			}
			p.stands(11, 1, 0, held, held+1, breaker.Closed, [5]uint64{0, uint64(held) + 1, 1, 0, 0})
		}
	}
}

// The words: what isn't passed over: a permit that is freed meanwhile is there for a later step, as its own is for the next one.
func TestStepsAfterOthers(t *testing.T) {
	p := newPair(t, steady(2, 0, 1, 3))
	p.offers(0, 1, set(1, 10))
	p.offers(0, 2, set(2, 10))
	p.answers(1, 1, false, nil, stop(1), set(1, 6))
	p.falls(2, 1, 1, false, nil, stop(1), set(1, 7)) // its own is free, and it takes that of the step 2
	p.answers(3, 2, false, nil, stop(2), failed(2, api.Error, 3))
	p.comes(7, 1, failed(1, api.Error, 7)) // that of the step 2 is held: the step 3 is passed over
	p.stands(7, 0, 0, 1, 1, breaker.Closed, [5]uint64{0, 2, 0, 0, 0})
	p.falls(8, 1, 2, false, nil)
	p.stands(8, 0, 0, 0, 0, breaker.Closed, [5]uint64{0, 2, 0, 0, 0})

	p = newPair(t, steady(2, 0, 2, 3))
	p.offers(0, 1, set(1, 10))
	p.offers(0, 2, set(2, 10))
	p.comes(10, 1, set(1, 15))
	p.comes(10, 2, set(2, 15))
	p.falls(12, 2, 1, true, []int{3}, stop(2), fell(2, api.Timeout, 3, 12))
	p.comes(15, 1, set(1, 20)) // the step 2
	p.falls(16, 1, 1, true, []int{3})
	p.comes(20, 1, set(1, 25)) // the step 3, by the permit of the first one
	p.falls(21, 1, 3, true, []int{3}, stop(1), fell(1, api.Timeout, 3, 21))
	p.stands(21, 2, 0, 1, 2, breaker.Closed, [5]uint64{0, 0, 2, 0, 0})
}

// P17.5: an answer that comes late frees a worker, and nothing else: of one that falls back, that is over, and that was answered already.
func TestLateAnswers(t *testing.T) {
	for _, ok := range []bool{false, true} {
		for _, vals := range [][]int{nil, {1}, {1, 2}} {
			p := newPair(t, steady(1, 1, 1, 1))
			p.offers(0, 1, set(1, 10))
			p.offers(0, 2, set(2, 10))
			p.comes(10, 1, set(1, 15))
			counts := [5]uint64{0, 0, 1, 0, 0}
			p.stands(10, 1, 1, 1, 2, breaker.Closed, counts)
			p.answers(11, 1, ok, vals) // it falls back
			p.stands(11, 0, 1, 1, 2, breaker.Closed, counts)
			r, e := p.answer(11, 1, ok, vals...)
			p.refuses(r, e, api.ErrNone) // another one came for it
			p.falls(12, 1, 1, true, []int{9}, stop(1), fell(1, api.Timeout, 9, 12))
			p.picks(12)
			p.comes(12, 2, set(2, 17))
			counts[2] = 2
			p.falls(13, 2, 1, false, nil, stop(2), failed(2, api.Timeout, 13))
			p.stands(13, 1, 0, 0, 1, breaker.Closed, counts)
			p.answers(14, 2, ok, vals) // it is over
			p.stands(14, 0, 0, 0, 0, breaker.Closed, counts)
			r, e = p.answer(14, 2, ok, vals...)
			p.refuses(r, e, api.ErrNone)
			if s := p.snap(14); s.All != 0 {
				t.Errorf("a late answer took %d", s.All)
			}
		}
	}
}

// P17.3: a fallback's answer of an elder step frees its permit, and nothing else: while a later step is under way, and when it is over.
func TestLateFallbacks(t *testing.T) {
	for _, ok := range []bool{false, true} {
		for _, vals := range [][]int{nil, {1}, {1, 2}} {
			p := newPair(t, steady(1, 0, 4, 3))
			counts := [5]uint64{0, 1, 0, 0, 0}
			p.offers(0, 1, set(1, 10))
			p.answers(0, 1, false, nil, stop(1), set(1, 5))
			p.comes(5, 1, set(1, 10))
			p.comes(10, 1, set(1, 15))
			p.falls(11, 1, 2, ok, vals)
			p.stands(11, 0, 0, 2, 1, breaker.Closed, counts)
			p.falls(12, 1, 3, true, []int{6}, stop(1), fell(1, api.Error, 6, 12)) // the step that is under way
			p.stands(12, 0, 0, 1, 1, breaker.Closed, counts)
			p.falls(13, 1, 1, ok, vals)
			p.stands(13, 0, 0, 0, 0, breaker.Closed, counts)
		}
	}
}

// P17.1: the breaker is short: it falls for that, is counted so, and asks for no worker; that doesn't trip, nor is it the probe.
func TestShort(t *testing.T) {
	p := newPair(t, touchy())
	p.offers(0, 1, set(1, 10))
	p.offers(0, 9, set(9, 10))
	p.answers(2, 1, false, nil, stop(1), set(1, 7))
	p.stands(2, 1, 0, 1, 2, breaker.Open, [5]uint64{0, 1, 0, 0, 0})
	r, e := p.offer(3, many(2, 5, 6))
	p.fine(r, e, failed(2, api.Short, 3), failed(3, api.Short, 3))
	p.stands(3, 1, 0, 1, 2, breaker.Open, [5]uint64{0, 1, 0, 0, 1})
	p.falls(4, 1, 1, true, []int{1}, stop(1), fell(1, api.Error, 1, 4))
	p.offers(5, 3, set(3, 10)) // it falls back
	p.stands(5, 1, 0, 1, 2, breaker.Open, [5]uint64{0, 1, 0, 0, 2})
	p.falls(6, 3, 1, true, []int{8}, stop(3), fell(3, api.Short, 8, 6))
	p.offers(21, 4, set(4, 26)) // a tick ahead of the end of its sleep
	p.comes(26, 4, failed(4, api.Short, 26))
	p.offers(22, 5, set(5, 32)) // the probe
	p.stands(26, 2, 0, 1, 3, breaker.Half, [5]uint64{0, 1, 0, 0, 3})
}

// P17.1: while a probe is under way all others are short, and one that ran already ends without a word to the breaker.
func TestHalfOpen(t *testing.T) {
	for _, ok := range []bool{false, true} {
		c := touchy()
		c.Pool, c.FbMax = 4, 0
		p := newPair(t, c)
		p.offers(0, 1, set(1, 10))
		p.offers(0, 2, set(2, 10))
		p.offers(0, 3, set(3, 10))
		p.answers(1, 1, false, nil, stop(1), failed(1, api.Error, 1))
		p.offers(21, 4, set(4, 31)) // the probe
		p.offers(21, 5, failed(5, api.Short, 21))
		p.stands(21, 3, 0, 0, 3, breaker.Half, [5]uint64{0, 1, 0, 0, 1})
		if ok {
			p.answers(22, 2, true, []int{1}, stop(2), success(2, 1, 22))
		} else {
			p.answers(22, 2, false, nil, stop(2), failed(2, api.Error, 22))
			p.comes(22, 3, failed(3, api.Timeout, 22))
		}
		if s := p.snap(22); s.Breaker != breaker.Half {
			t.Errorf("the breaker is %d", s.Breaker)
		}
		p.offers(23, 6, failed(6, api.Short, 23))
		p.answers(24, 4, true, []int{1}, stop(4), success(4, 1, 24))
		p.offers(25, 7, set(7, 35))
		if s := p.snap(25); s.Breaker != breaker.Closed || s.Counts != [5]uint64{} {
			t.Errorf("behind the probe: %+v", s)
		}
	}
}

// P17.1, the words: the breaker trips just by the call that is enough, whatever it is counted as; those in its buckets alone count.
func TestTrips(t *testing.T) {
	c := one()
	c.FbMax, c.Chain = 0, 0
	ways := []func(p pair){
		func(p pair) { p.answers(9, 1, false, nil, stop(1), failed(1, api.Error, 9)) },
		func(p pair) { p.comes(9, 1, failed(1, api.Timeout, 9)) },
		func(p pair) { p.comes(9, 2, failed(2, api.Timeout, 9)) },
		func(p pair) { p.offers(9, 3, failed(3, api.Rejected, 9)) },
	}
	kinds := []int{1, 2, 2, 3}
	for i, way := range ways {
		for fine := range 5 {
			for wrong := range 5 {
				p := newPair(t, c)
				done := 0
				for ; done < fine; done++ {
					p.offers(5, 50, set(50, 15))
					p.answers(5, 50, true, []int{1}, stop(50), success(50, 1, 5))
				}
				for ; done < fine+wrong; done++ {
					if p.d.State() != breaker.Closed {
						break
					}
					p.offers(5, 50, set(50, 15))
					p.answers(5, 50, false, nil, stop(50), failed(50, api.Error, 5))
				}
				if p.d.State() != breaker.Closed {
					continue // it tripped by an elder one
				}
				p.offers(5, 1, set(1, 15))
				p.offers(5, 2, set(2, 15))
				way(p)
				want := breaker.Closed
				if fine+wrong >= 3 && 2*(wrong+1) >= fine+wrong+1 {
					want = breaker.Open
				}
				counts := [5]uint64{uint64(fine), uint64(wrong), 0, 0, 0}
				counts[kinds[i]]++
				if s := p.snap(9); s.Breaker != want || s.Counts != counts {
					t.Fatalf("of %d and %d, by the way %d: %+v, want %d, %v", fine, wrong, i, s, want, counts)
				}
			}
		}
	}
}

// The words: a success may be the one by which there are calls enough: it trips, too.
func TestTripsByASuccess(t *testing.T) {
	c := one()
	c.Chain = 0
	p := newPair(t, c)
	for i := range uint64(3) {
		p.offers(i, 1, set(1, i+10))
		p.answers(i, 1, false, nil, stop(1), failed(1, api.Error, i))
	}
	p.stands(3, 0, 0, 0, 0, breaker.Closed, [5]uint64{0, 3, 0, 0, 0})
	p.offers(3, 1, set(1, 13))
	p.answers(4, 1, true, []int{1}, stop(1), success(1, 1, 4))
	p.stands(4, 0, 0, 0, 0, breaker.Open, [5]uint64{1, 3, 0, 0, 0})
	if p.d.Since() != 4 {
		t.Errorf("open since %d", p.d.Since())
	}
}

// P6: what was counted ahead of the last buckets plays no part.
func TestTripsByTheLastBuckets(t *testing.T) {
	c := one()
	c.Chain, c.Volume = 0, 2
	for _, second := range []uint64{0, 99, 100, 199, 200, 201, 300} {
		p := newPair(t, c)
		p.offers(0, 1, set(1, 10))
		p.answers(0, 1, false, nil, stop(1), failed(1, api.Error, 0))
		p.offers(second, 1, set(1, second+10))
		p.answers(second, 1, false, nil, stop(1), failed(1, api.Error, second))
		state, failures := breaker.Open, uint64(2)
		if second >= 200 {
			state, failures = breaker.Closed, 1
		}
		p.stands(second, 0, 0, 0, 0, state, [5]uint64{0, failures, 0, 0, 0})
	}
}

// opened is a pair whose breaker tripped at 0, of so many workers, which others hold, and who wait.
func opened(t *testing.T, workers, queue, busy int) pair {
	t.Helper()
	c := touchy()
	c.Pool, c.Queue, c.FbMax, c.Chain = workers, queue, 4, 1
	p := newPair(t, c)
	for id := 21; id < 21+busy; id++ {
		p.offers(0, id, set(id, 10))
	}
	if busy == 0 {
		p.offers(0, 21, set(21, 10))
		p.answers(0, 21, false, nil, stop(21), set(21, 5))
		p.falls(0, 21, 1, false, nil, stop(21), failed(21, api.Error, 0))
	} else {
		p.comes(0, 20+busy, set(20+busy, 5))
		p.falls(0, 20+busy, 1, false, nil, stop(20+busy), failed(20+busy, api.Timeout, 0))
	}
	if p.d.State() != breaker.Open {
		t.Fatal("it isn't open")
	}
	return p
}

// P17.1: the probe that finds no room was none: the breaker is open as it was, so that the next one may be the probe at once.
func TestProbeRefused(t *testing.T) {
	p := opened(t, 1, 0, 1)
	p.offers(25, 2, set(2, 30)) // refused, it falls back
	p.stands(25, 1, 0, 1, 2, breaker.Open, [5]uint64{0, 0, 1, 1, 0})
	if p.d.Since() != 0 {
		t.Errorf("open since %d", p.d.Since())
	}
	p.offers(25, 3, set(3, 30)) // refused, too, and not short
	p.stands(25, 1, 0, 2, 3, breaker.Open, [5]uint64{0, 0, 1, 2, 0})
	p.falls(26, 2, 1, true, []int{3}, stop(2), fell(2, api.Rejected, 3, 26))
	p.answers(27, 21, true, []int{1})
	p.offers(27, 4, set(4, 37)) // the probe
	p.stands(27, 1, 0, 1, 2, breaker.Half, [5]uint64{0, 0, 1, 2, 0})
	p.falls(28, 3, 1, true, []int{3}, stop(3), fell(3, api.Rejected, 3, 28)) // the one that was refused is none any more
	p.answers(29, 4, true, []int{1}, stop(4), success(4, 1, 29))
	p.stands(29, 0, 0, 0, 0, breaker.Closed, [5]uint64{})
}

// P17.1: a refused probe's id may come again, when it isn't known, and is a call like others.
func TestRefusedProbeComesAgain(t *testing.T) {
	c := touchy()
	c.Pool, c.Queue, c.Chain, c.Sleep = 1, 0, 0, 0
	p := newPair(t, c)
	p.offers(0, 1, set(1, 10))
	p.comes(5, 1, failed(1, api.Timeout, 5))
	p.offers(6, 2, failed(2, api.Rejected, 6)) // the probe, refused
	p.offers(6, 2, failed(2, api.Rejected, 6)) // again
	p.stands(6, 1, 0, 0, 1, breaker.Open, [5]uint64{0, 0, 1, 2, 0})
	p.answers(7, 1, true, []int{1})
	p.offers(8, 2, set(2, 18))
	p.answers(9, 2, true, []int{1}, stop(2), success(2, 1, 9))
	p.stands(9, 0, 0, 0, 0, breaker.Closed, [5]uint64{})
	p.offers(10, 2, set(2, 20)) // no probe any more: a success is counted
	p.answers(11, 2, true, []int{1}, stop(2), success(2, 1, 11))
	p.stands(11, 0, 0, 0, 0, breaker.Closed, [5]uint64{1, 0, 0, 0, 0})
}

// The words: a probe that fails opens the breaker anew, since then; the window isn't reset.
func TestProbeFails(t *testing.T) {
	p := opened(t, 2, 1, 0)
	p.offers(20, 2, set(2, 30))
	p.answers(23, 2, false, nil, stop(2), set(2, 28))
	p.stands(23, 0, 0, 1, 1, breaker.Open, [5]uint64{0, 2, 0, 0, 0})
	if p.d.Since() != 23 {
		t.Errorf("open since %d", p.d.Since())
	}
	p.falls(24, 2, 1, true, []int{6}, stop(2), fell(2, api.Error, 6, 24)) // of a fallback the breaker hears nothing
	p.stands(24, 0, 0, 0, 0, breaker.Open, [5]uint64{0, 2, 0, 0, 0})
	p.offers(42, 3, set(3, 47))
	p.falls(42, 3, 1, false, nil, stop(3), failed(3, api.Short, 42))
	p.offers(43, 4, set(4, 53)) // the next probe
	p.answers(44, 4, true, []int{1, 2}, stop(4), set(4, 49))
	p.stands(44, 0, 0, 1, 1, breaker.Open, [5]uint64{0, 3, 0, 0, 1})
}

// The words: a probe that times out, while it runs and while it waits, opens the breaker anew; its late answer says nothing.
func TestProbeTimesOut(t *testing.T) {
	p := opened(t, 1, 1, 0)
	p.offers(20, 2, set(2, 30))
	p.comes(30, 2, set(2, 35))
	p.stands(30, 1, 0, 1, 1, breaker.Open, [5]uint64{0, 1, 1, 0, 0})
	p.answers(31, 2, true, []int{5})
	p.stands(31, 0, 0, 1, 1, breaker.Open, [5]uint64{0, 1, 1, 0, 0})
	p.offers(49, 3, set(3, 54)) // short: it sleeps since 30
	p.offers(50, 4, set(4, 60))
	p.stands(50, 1, 0, 2, 3, breaker.Half, [5]uint64{0, 1, 1, 0, 1})

	p = opened(t, 1, 1, 1)
	p.offers(20, 2, set(2, 30)) // the probe waits
	p.stands(20, 1, 1, 0, 2, breaker.Half, [5]uint64{0, 0, 1, 0, 0})
	p.offers(21, 3, set(3, 26))
	p.comes(30, 2, set(2, 35))
	p.stands(30, 1, 0, 2, 3, breaker.Open, [5]uint64{0, 0, 2, 0, 1})
	if p.d.Since() != 30 {
		t.Errorf("open since %d", p.d.Since())
	}
}

// The words: a probe that succeeds closes the breaker, and nothing was counted; how long things took stays.
func TestProbeSucceeds(t *testing.T) {
	p := opened(t, 2, 1, 0)
	p.offers(20, 2, set(2, 30))
	p.answers(25, 2, true, []int{1}, stop(2), success(2, 1, 25))
	p.stands(25, 0, 0, 0, 0, breaker.Closed, [5]uint64{})
	if s := p.snap(25); s.Half != 7 || s.All != 7 {
		t.Errorf("how long it took: %+v", s)
	}
	p.offers(26, 3, set(3, 36))
	p.offers(26, 4, set(4, 36))
	p.answers(27, 3, true, []int{1}, stop(3), success(3, 1, 27))
	p.stands(27, 1, 0, 0, 1, breaker.Closed, [5]uint64{1, 0, 0, 0, 0})
	p.answers(28, 4, false, nil, stop(4), set(4, 33)) // trips anew
	p.stands(28, 0, 0, 1, 1, breaker.Open, [5]uint64{1, 1, 0, 0, 0})
}

// P17.1, the words: a probe that waited, was picked, and succeeds.
func TestProbeWaits(t *testing.T) {
	p := opened(t, 1, 1, 1)
	p.offers(20, 2, set(2, 30))
	p.answers(21, 21, false, nil) // late
	p.picks(22)
	p.stands(22, 1, 0, 0, 1, breaker.Half, [5]uint64{0, 0, 1, 0, 0})
	p.answers(23, 2, true, []int{1}, stop(2), success(2, 1, 23))
	p.stands(23, 0, 0, 0, 0, breaker.Closed, [5]uint64{})
}

// P6: forced open all are short, forced closed all may pass, and neither changes.
func TestForce(t *testing.T) {
	c := touchy()
	c.Force, c.FbMax, c.Sleep = api.ForceOpen, 0, 0
	p := newPair(t, c)
	for id := 1; id < 9; id++ {
		p.offers(uint64(id), id, failed(id, api.Short, uint64(id)))
	}
	p.stands(9, 0, 0, 0, 0, breaker.Closed, [5]uint64{0, 0, 0, 0, 8})
	c.Force = api.ForceClosed
	p = newPair(t, c)
	for id := 1; id < 9; id++ {
		now := uint64(id)
		p.offers(now, id, set(id, now+10))
		p.answers(now, id, false, nil, stop(id), failed(id, api.Error, now))
	}
	p.stands(9, 0, 0, 0, 0, breaker.Closed, [5]uint64{0, 8, 0, 0, 0})
	c.Force = api.ForceNone
	p = newPair(t, c)
	p.offers(1, 1, set(1, 11))
	p.answers(1, 1, false, nil, stop(1), failed(1, api.Error, 1))
	p.stands(1, 0, 0, 0, 0, breaker.Open, [5]uint64{0, 1, 0, 0, 0})
}

// The modes: of permits nobody waits.
func TestSemaphore(t *testing.T) {
	p := newPair(t, semaphore(steady(1, 0, 1, 2), 2))
	p.offers(0, 1, set(1, 10))
	p.offers(0, 2, set(2, 10))
	p.offers(0, 3, set(3, 5))
	p.stands(0, 2, 0, 1, 3, breaker.Closed, [5]uint64{0, 0, 0, 1, 0})
	p.comes(5, 3, failed(3, api.Rejected, 5)) // the step 2 finds the permit of the step 1 held
	p.comes(10, 1, failed(1, api.Timeout, 10))
	p.offers(11, 4, failed(4, api.Rejected, 11)) // the permit is held still
	p.answers(12, 1, true, []int{1})
	p.offers(12, 4, set(4, 22))
	p.answers(13, 2, true, []int{1}, stop(2), success(2, 1, 13))
	p.falls(14, 3, 1, true, []int{1})
	p.stands(14, 1, 0, 0, 1, breaker.Closed, [5]uint64{1, 0, 1, 2, 0})
}

// P17.1, the words: times whose sum with Timeout and FbTimeout goes over are the greatest number.
func TestTimesThatGoOver(t *testing.T) {
	c := steady(1, 1, 4, 3)
	c.Timeout, c.FbTimeout = api.MaxTicks, api.MaxTicks
	p := newPair(t, c)
	const edge = most - api.MaxTicks
	p.offers(edge-1, 1, set(1, most-1))
	p.offers(edge, 2, set(2, most))
	p.answers(edge, 1, false, nil, stop(1), set(1, most))
	p.picks(edge + 1)
	p.comes(edge+1, 2, set(2, most))
	p.comes(most-1, 1, set(1, most))
	p.comes(most, 1, set(1, most))
	p.answers(most, 2, true, []int{1})
	p.offers(most, 3, set(3, most))
	p.answers(most, 3, true, []int{1}, stop(3), success(3, 1, most))
	p.falls(most, 2, 1, true, []int{1}, stop(2), fell(2, api.Timeout, 1, most))
	p.comes(most, 1, failed(1, api.Error, most))
	for step := 1; step <= 3; step++ {
		p.falls(most, 1, step, true, []int{1})
	}
	p.stands(most, 0, 0, 0, 0, breaker.Closed, [5]uint64{1, 0, 0, 0, 0}) // the others are behind
	p.offers(0, 4, set(4, api.MaxTicks))
	p.answers(most, 4, true, []int{1}, stop(4), success(4, 1, most))
	if s := p.snap(0); s.Half != 0 || s.All != most {
		t.Errorf("how long it took: %+v", s)
	}
}

// P6: an open breaker whose sleep goes over wakes at the greatest number.
func TestSleepThatGoesOver(t *testing.T) {
	c := touchy()
	c.Chain, c.Sleep = 0, api.MaxTicks
	p := newPair(t, c)
	p.offers(most-5, 1, set(1, most))
	p.answers(most-5, 1, false, nil, stop(1), failed(1, api.Error, most-5))
	p.offers(most-1, 2, failed(2, api.Short, most-1))
	p.offers(most, 3, set(3, most))
	p.stands(most, 1, 0, 0, 1, breaker.Half, [5]uint64{0, 1, 0, 0, 1})
}

// Times that go back: what is counted is counted as of the latest time; timers, and the breaker, go by what they are told.
func TestTimesThatGoBack(t *testing.T) {
	c := touchy()
	c.FbMax, c.Volume = 0, 2
	p := newPair(t, c)
	p.offers(1000, 1, set(1, 1010))
	p.offers(500, 2, set(2, 510))
	p.answers(990, 1, true, []int{1}, stop(1), success(1, 1, 990)) // took 0
	if s := p.snap(1500); s.Half != 0 || s.Counts != [5]uint64{} {
		t.Errorf("behind: %+v", s)
	}
	p.answers(3, 2, false, nil, stop(2), failed(2, api.Error, 3))
	p.stands(0, 0, 0, 0, 0, breaker.Closed, [5]uint64{0, 1, 0, 0, 0}) // as of 1500
	p.offers(7, 3, set(3, 17))
	p.comes(2, 3, failed(3, api.Timeout, 2))
	p.stands(1599, 1, 0, 0, 1, breaker.Open, [5]uint64{0, 1, 1, 0, 0})
	if p.d.Since() != 2 {
		t.Errorf("open since %d", p.d.Since())
	}
	p.offers(1, 4, failed(4, api.Short, 1))
	p.offers(22, 5, set(5, 32))
	p.answers(0, 5, false, nil, stop(5), failed(5, api.Error, 0))
	p.offers(20, 6, set(6, 30)) // a probe again: it is open since 0
	p.stands(1699, 2, 0, 0, 2, breaker.Half, [5]uint64{0, 2, 1, 0, 1})
}

// The turn of the Acts and Outs that one call tells: what is stopped is so ahead of what is set, members in their turn.
func TestTheTurn(t *testing.T) {
	p := newPair(t, steady(1, 1, 1, 1))
	r, e := p.offer(0, many(3, 9, 8, 9, 7))
	p.fine(r, e, set(3, 10))
	r, e = p.answer(1, 3, false)
	if e != api.OK || !slices.Equal(r.Acts, []Act{{false, 3, 0}, {true, 3, 6}}) || len(r.Outs) != 0 {
		t.Errorf("failed: %+v", r)
	}
	r, e = p.fallback(2, 3, 1, false)
	if e != api.OK || !slices.Equal(r.Acts, []Act{{false, 3, 0}}) || !slices.Equal(r.Outs, []api.Out{
		{Id: 3, Kind: 4, Cause: 1, At: 2}, {Id: 4, Kind: 4, Cause: 1, At: 2}, {Id: 5, Kind: 4, Cause: 1, At: 2}, {Id: 6, Kind: 4, Cause: 1, At: 2},
	}) {
		t.Errorf("failed to the end: %+v", r)
	}
	r, e = p.offer(2, many(3, 9, 8, 9, 7))
	p.fine(r, e, set(3, 12))
	r, e = p.answer(3, 3, true, 30, 20, 10)
	if e != api.OK || !slices.Equal(r.Acts, []Act{{false, 3, 0}}) || !slices.Equal(r.Outs, []api.Out{
		{Id: 3, Kind: 1, Val: 30, At: 3}, {Id: 4, Kind: 1, Val: 20, At: 3}, {Id: 5, Kind: 1, Val: 30, At: 3}, {Id: 6, Kind: 1, Val: 10, At: 3},
	}) {
		t.Errorf("succeeded: %+v", r)
	}
}

// P17.4: of a Dep that is nil: ErrArg, nothing, zero; at all arguments.
func TestNil(t *testing.T) {
	var d *Dep
	wrong := func(r Result, e api.Errno) {
		t.Helper()
		if !alike(r, Result{}) || e != api.ErrArg {
			t.Errorf("told %+v, %d", r, e)
		}
	}
	for _, id := range ends() {
		for _, now := range []uint64{0, 5, most} {
			wrong(d.Offer(now, batch.One(id, 5)))
			wrong(d.Answer(now, id, true, []int{1}))
			wrong(d.Answer(now, id, false, nil))
			for _, step := range ends() {
				wrong(d.Fallback(now, id, step, true, []int{1}))
			}
			if !alike(d.Late(now, id), Result{}) || d.Knows(id) || d.Snap(now) != (Snap{}) {
				t.Errorf("of %d at %d something is told", id, now)
			}
			wrong(d.Pick(now))
		}
	}
	wrong(d.Offer(0, batch.Batch{}))
}

// Ten examples, 7: of one worker: the second command waits; timed out, it is dropped; the first one's late answer frees the worker, and nothing else.
func TestExample(t *testing.T) {
	c := one()
	c.Chain = 0
	p := newPair(t, c)
	p.offers(0, 1, set(1, 10))
	p.offers(1, 2, set(2, 11))
	p.stands(1, 1, 1, 0, 2, breaker.Closed, [5]uint64{})
	p.comes(10, 1, failed(1, api.Timeout, 10))
	p.comes(11, 2, failed(2, api.Timeout, 11))
	p.stands(11, 1, 0, 0, 1, breaker.Closed, [5]uint64{0, 0, 2, 0, 0})
	p.answers(12, 1, true, []int{7})
	p.stands(12, 0, 0, 0, 0, breaker.Closed, [5]uint64{0, 0, 2, 0, 0})
}
