package dep

import (
	"math"
	"math/bits"
	"slices"
	"testing"

	"porpoise/api"
	"porpoise/batch"
)

const most = math.MaxUint64

// How a call of the model stands.
const (
	waits = iota
	runs
	falls
	over
)

// How a breaker of the model stands, by the numbers that are told.
const (
	closed = iota + 1
	open
	half
)

// life is a call, and what it holds.
type life struct {
	b           batch.Batch
	state, step int
	cause       int
	start       uint64
	worker      bool
	permits     []int // the steps whose fallbacks hold one
}

// noted is something that was counted, or how long something took, and when.
type noted struct {
	at   uint64
	kind int
	took uint64
}

// model is the chapter's words, and those of the chapters below, over lists of all that was counted.
type model struct {
	c                     api.Conf
	lives                 map[int]*life // the calls that are known
	queue                 []int
	breaker, probe        int
	since                 uint64
	counted, took         []noted
	countedLast, tookLast uint64 // the latest times that were asked with
	told                  Result
}

func newModel(c api.Conf) *model {
	return &model{c: c, lives: map[int]*life{}, breaker: closed}
}

// plus are two times together, or the greatest one.
func plus(a, b uint64) uint64 {
	sum, carry := bits.Add64(a, b, 0)
	if carry > 0 {
		return most
	}
	return sum
}

// recent are those of the last buckets.
func recent(l []noted, now uint64, c api.Conf) []noted {
	var in []noted
	for _, n := range l {
		if now/c.Width-n.at/c.Width < uint64(c.Buckets) {
			in = append(in, n)
		}
	}
	return in
}

func (m *model) workers() int {
	if m.c.Mode == api.Pool {
		return m.c.Pool
	}
	return m.c.Sem
}

func (m *model) busy() int {
	n := 0
	for _, l := range m.lives {
		if l.worker {
			n++
		}
	}
	return n
}

func (m *model) falling() int {
	n := 0
	for _, l := range m.lives {
		n += len(l.permits)
	}
	return n
}

// tidy forgets those that are known no more, and tells what was told.
func (m *model) tidy() (Result, api.Errno) {
	for id, l := range m.lives {
		if l.state == over && !l.worker && len(l.permits) == 0 {
			delete(m.lives, id)
		}
	}
	told := m.told
	m.told = Result{}
	return told, api.OK
}

func (m *model) note(now uint64, kind int) {
	m.countedLast = max(m.countedLast, now)
	m.counted = append(m.counted, noted{at: m.countedLast, kind: kind})
}

func (m *model) counts(now uint64) [5]uint64 {
	m.countedLast = max(m.countedLast, now)
	var c [5]uint64
	for _, n := range recent(m.counted, m.countedLast, m.c) {
		c[n.kind]++
	}
	return c
}

// opens tells whether the counts say that the breaker opens.
func (m *model) opens(now uint64) bool {
	c := m.counts(now)
	errors := c[1] + c[2] + c[3]
	volume := errors + c[0]
	return volume >= uint64(m.c.Volume) && 100*errors >= uint64(m.c.Percent)*volume
}

// count is 'counted as something'.
func (m *model) count(now uint64, id, kind int) {
	m.note(now, kind)
	if id == m.probe {
		m.probe = 0
		if kind == 0 {
			m.breaker, m.counted = closed, nil
		} else {
			m.breaker, m.since = open, now
		}
		return
	}
	if m.opens(now) && m.breaker == closed && m.c.Force == api.ForceNone {
		m.breaker, m.since = open, now
	}
}

// fall is 'it falls'.
func (m *model) fall(now uint64, id, cause int) {
	l := m.lives[id]
	if l.state == waits || l.state == runs {
		l.cause = cause
	}
	for l.step < m.c.Chain {
		l.state = falls
		l.step++
		if m.falling() < m.c.FbMax {
			l.permits = append(l.permits, l.step)
			m.told.Acts = append(m.told.Acts, Act{true, id, plus(now, m.c.FbTimeout)})
			return
		}
	}
	l.state = over
	for _, member := range l.b.Members {
		m.told.Outs = append(m.told.Outs, api.Out{Id: member.Id, Kind: api.Failed, Cause: l.cause, At: now})
	}
}

// end is over with values, which some members may have no place in: then nobody has an outcome.
func (m *model) end(now uint64, id, kind, cause int, vals []int) {
	l := m.lives[id]
	l.state = over
	for _, member := range l.b.Members {
		if member.At < 0 || member.At >= len(vals) {
			m.told.Outs = nil
			return
		}
		m.told.Outs = append(m.told.Outs, api.Out{Id: member.Id, Kind: kind, Cause: cause, Val: vals[member.At], At: now})
	}
}

// ask tells whether a call may pass, and whether it is the probe.
func (m *model) ask(now uint64) (pass, probe bool) {
	switch {
	case m.c.Force == api.ForceOpen:
		return false, false
	case m.c.Force == api.ForceClosed, m.breaker == closed:
		return true, false
	case m.breaker == open && now >= plus(m.since, m.c.Sleep):
		return true, true
	}
	return false, false
}

func (m *model) offer(now uint64, b batch.Batch) (Result, api.Errno) {
	if len(b.Members) == 0 || b.Members[0].Id <= 0 {
		return Result{}, api.ErrArg
	}
	id := b.Members[0].Id
	if m.lives[id] != nil {
		return Result{}, api.ErrThere
	}
	l := &life{b: roomy(b, 0), start: now}
	m.lives[id] = l
	pass, probe := m.ask(now)
	if !pass {
		m.note(now, 4)
		m.fall(now, id, api.Short)
		return m.tidy()
	}
	if probe {
		m.breaker, m.probe = half, id
	}
	left, queued := m.workers()-m.busy(), len(m.queue)
	switch {
	case left > 0 && queued == 0:
		l.worker, l.state = true, runs
	case queued < m.c.Queue:
		m.queue = append(m.queue, id)
	case left > 0:
		m.pickFirst()
		m.queue = append(m.queue, id)
	default:
		if probe {
			m.breaker, m.probe = open, 0
		}
		m.count(now, id, 3)
		m.fall(now, id, api.Rejected)
		return m.tidy()
	}
	m.told.Acts = append(m.told.Acts, Act{true, id, plus(now, m.c.Timeout)})
	return m.tidy()
}

// pickFirst lets the first one that waits run.
func (m *model) pickFirst() {
	l := m.lives[m.queue[0]]
	l.worker, l.state = true, runs
	m.queue = slices.Clone(m.queue[1:])
}

func (m *model) pick() (Result, api.Errno) {
	if m.busy() == m.workers() || len(m.queue) == 0 {
		return Result{}, api.ErrNone
	}
	m.pickFirst()
	return m.tidy()
}

func (m *model) answer(now uint64, id int, ok bool, vals []int) (Result, api.Errno) {
	l := m.lives[id]
	if l == nil || !l.worker {
		return Result{}, api.ErrNone
	}
	l.worker = false
	if l.state == runs {
		m.told.Acts = append(m.told.Acts, Act{false, id, 0})
		if ok && len(vals) == len(l.b.Args) {
			m.count(now, id, 0)
			m.tookLast = max(m.tookLast, now)
			m.took = append(m.took, noted{at: m.tookLast, took: max(now, l.start) - l.start})
			m.end(now, id, api.Success, 0, vals)
		} else {
			m.count(now, id, 1)
			m.fall(now, id, api.Error)
		}
	}
	return m.tidy()
}

func (m *model) fallback(now uint64, id, step int, ok bool, vals []int) (Result, api.Errno) {
	l := m.lives[id]
	if l == nil || !slices.Contains(l.permits, step) {
		return Result{}, api.ErrNone
	}
	l.permits = slices.DeleteFunc(slices.Clone(l.permits), func(s int) bool { return s == step })
	if l.state == falls && l.step == step {
		m.told.Acts = append(m.told.Acts, Act{false, id, 0})
		if ok && len(vals) == len(l.b.Args) {
			m.end(now, id, api.Fall, l.cause, vals)
		} else {
			m.fall(now, id, math.MinInt)
		}
	}
	return m.tidy()
}

func (m *model) late(now uint64, id int) Result {
	if l := m.lives[id]; l != nil && l.state != over {
		if l.state == waits {
			m.queue = slices.DeleteFunc(slices.Clone(m.queue), func(w int) bool { return w == id })
		}
		if l.state != falls {
			m.count(now, id, 2)
		}
		m.fall(now, id, api.Timeout)
	}
	told, _ := m.tidy()
	return told
}

// percentile is the greatest time of the bin in which so many of a hundred are reached.
func (m *model) percentile(percent int64) uint64 {
	var l []uint64
	for _, n := range recent(m.took, m.tookLast, m.c) {
		l = append(l, n.took)
	}
	slices.Sort(l)
	for place, took := range l {
		// The bin's own greatest time is told, so that those behind it in the same bin change nothing.
		if int64(place+1)*100 >= percent*int64(len(l)) {
			return uint64(1)<<bits.Len64(took) - 1
		}
	}
	return 0
}

func (m *model) snap(now uint64) Snap {
	m.tookLast = max(m.tookLast, now)
	return Snap{
		Busy: m.busy(), Waiting: len(m.queue), Falls: m.falling(), Calls: len(m.lives), Breaker: m.breaker,
		Counts: m.counts(now), Half: m.percentile(50), All: m.percentile(100),
	}
}

// pair is a dependency, and what it should be.
type pair struct {
	t *testing.T
	d *Dep
	m *model
}

func newPair(t *testing.T, c api.Conf) pair {
	t.Helper()
	d := New(c)
	if d == nil {
		t.Fatalf("New(%+v) is nil", c)
	}
	return pair{t, d, newModel(c)}
}

// roomy is a batch alike, whose lists have room behind their lengths.
func roomy(b batch.Batch, room int) batch.Batch {
	args := make([]int, len(b.Args), len(b.Args)+room)
	members := make([]batch.Member, len(b.Members), len(b.Members)+room)
	copy(args, b.Args)
	copy(members, b.Members)
	return batch.Batch{Args: args, Members: members}
}

// alike tells whether two results are; nil and empty lists are (R2).
func alike(a, b Result) bool {
	return slices.Equal(a.Acts, b.Acts) && slices.Equal(a.Outs, b.Outs)
}

// own is what was told, in memory of its own; what was told is written over, also behind its lengths, as its caller may do that (R3).
func own(r Result) Result {
	kept := Result{slices.Clone(r.Acts), slices.Clone(r.Outs)}
	acts, outs := r.Acts[:cap(r.Acts)], r.Outs[:cap(r.Outs)]
	for i := range acts {
		acts[i] = Act{true, -777, 777}
	}
	for i := range outs {
		outs[i] = api.Out{Id: -777, Kind: -777, Cause: -777, Val: -777, At: 777}
	}
	return kept
}

// same holds what was told against what should be, and who is known, and waits, against the model.
func (p pair) same(name string, got, want Result, e, wantE api.Errno) {
	p.t.Helper()
	if !alike(got, want) || e != wantE {
		p.t.Fatalf("%s = %+v, %d, want %+v, %d", name, got, e, want, wantE)
	}
	if waiting := p.d.Waiting(); !slices.Equal(waiting, p.m.queue) {
		p.t.Fatalf("behind %s %v wait, want %v", name, waiting, p.m.queue)
	}
	for id := -1; id <= 12; id++ {
		p.knows(id)
	}
}

func (p pair) knows(id int) {
	p.t.Helper()
	if got, want := p.d.Knows(id), p.m.lives[id] != nil; got != want {
		p.t.Fatalf("Knows(%d) = %t, want %t", id, got, want)
	}
}

func (p pair) offer(now uint64, b batch.Batch) (Result, api.Errno) {
	p.t.Helper()
	handed := roomy(b, 3)
	got, e := p.d.Offer(now, handed)
	want, wantE := p.m.offer(now, b)
	if !slices.Equal(handed.Args, b.Args) || !slices.Equal(handed.Members, b.Members) {
		p.t.Fatalf("the batch %+v that was handed over became %+v", b, handed)
	}
	// What was handed over is its caller's still, so that nothing may hang on it.
	for i := range handed.Args {
		handed.Args[i] = -777
	}
	for i := range handed.Members {
		handed.Members[i] = batch.Member{Id: -777, At: -777}
	}
	p.same("Offer", got, want, e, wantE)
	p.knows(batch.Lead(b))
	return own(got), e
}

func (p pair) pick(now uint64) (Result, api.Errno) {
	p.t.Helper()
	got, e := p.d.Pick(now)
	want, wantE := p.m.pick()
	p.same("Pick", got, want, e, wantE)
	return own(got), e
}

// handing calls with a list of values, and holds that it stays as it was, and then writes over it.
func (p pair) handing(vals []int, do func([]int) (Result, api.Errno)) (Result, api.Errno) {
	p.t.Helper()
	handed := append(slices.Clone(vals), 71, 72)
	whole := slices.Clone(handed)
	got, e := do(handed[:len(vals)])
	if !slices.Equal(handed, whole) {
		p.t.Fatalf("the values %v became %v", whole, handed)
	}
	for i := range handed {
		handed[i] = -777
	}
	return got, e
}

func (p pair) answer(now uint64, id int, ok bool, vals ...int) (Result, api.Errno) {
	p.t.Helper()
	got, e := p.handing(vals, func(l []int) (Result, api.Errno) { return p.d.Answer(now, id, ok, l) })
	want, wantE := p.m.answer(now, id, ok, vals)
	p.same("Answer", got, want, e, wantE)
	p.knows(id)
	return own(got), e
}

func (p pair) fallback(now uint64, id, step int, ok bool, vals ...int) (Result, api.Errno) {
	p.t.Helper()
	got, e := p.handing(vals, func(l []int) (Result, api.Errno) { return p.d.Fallback(now, id, step, ok, l) })
	want, wantE := p.m.fallback(now, id, step, ok, vals)
	p.same("Fallback", got, want, e, wantE)
	p.knows(id)
	return own(got), e
}

func (p pair) late(now uint64, id int) Result {
	p.t.Helper()
	got := p.d.Late(now, id)
	p.same("Late", got, p.m.late(now, id), api.OK, api.OK)
	p.knows(id)
	return own(got)
}

func (p pair) snap(now uint64) Snap {
	p.t.Helper()
	got, want := p.d.Snap(now), p.m.snap(now)
	if got != want {
		p.t.Fatalf("Snap(%d) = %+v, want %+v", now, got, want)
	}
	return got
}
