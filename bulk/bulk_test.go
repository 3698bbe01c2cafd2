package bulk

import (
	"math"
	"math/rand"
	"reflect"
	"slices"
	"testing"

	"porpoise/api"
)

// model is the chapter's words, over a list of those that run and a list of those that wait.
type model struct {
	workers, most int
	runs, waits   []int
}

func (m *model) left() bool { return len(m.runs) < m.workers }

// begin lets the first one that waits run.
func (m *model) begin() int {
	first := m.waits[0]
	m.waits = slices.Clone(m.waits[1:])
	m.runs = append(m.runs, first)
	return first
}

func (m *model) admit(id int) (int, []int) {
	switch {
	case slices.Contains(m.runs, id), slices.Contains(m.waits, id):
		return Reject, nil
	case m.left() && len(m.waits) == 0:
		m.runs = append(m.runs, id)
		return Run, nil
	case len(m.waits) < m.most:
		m.waits = append(m.waits, id)
		return Wait, nil
	case m.left() && len(m.waits) > 0:
		first := m.begin()
		m.waits = append(m.waits, id)
		return Wait, []int{first}
	}
	return Reject, nil
}

func (m *model) pick() (int, bool) {
	if m.left() && len(m.waits) > 0 {
		return m.begin(), true
	}
	return 0, false
}

func (m *model) drop(id int) bool { return without(&m.waits, id) }

func (m *model) free(id int) bool { return without(&m.runs, id) }

// without takes a number out of a list in which no two are alike, and tells whether it was there.
func without(list *[]int, id int) bool {
	was := len(*list)
	*list = slices.DeleteFunc(slices.Clone(*list), func(x int) bool { return x == id })
	return len(*list) < was
}

// pair is a bulk, and what it should be.
type pair struct {
	t *testing.T
	b *Bulk
	m *model
}

func newPair(t *testing.T, c api.Conf) pair {
	t.Helper()
	m := &model{workers: c.Pool, most: c.Queue}
	if c.Mode == api.Semaphore {
		m = &model{workers: c.Sem}
	}
	p := pair{t, New(c), m}
	if p.b == nil {
		t.Fatalf("New(%+v) is nil", c)
	}
	p.look()
	return p
}

// look holds all that is told without a change against the model, and who runs or waits against Runs.
func (p pair) look() {
	p.t.Helper()
	expect(p.t, p.b, p.m.runs, p.m.waits)
}

func (p pair) admit(id int) (int, []int) {
	p.t.Helper()
	how, others := p.b.Admit(id)
	want, begun := p.m.admit(id)
	if how != want || !slices.Equal(others, begun) {
		p.t.Fatalf("Admit(%d) = %d, %v, want %d, %v", id, how, others, want, begun)
	}
	p.look()
	p.lookAt(id)
	return how, others
}

func (p pair) pick() (int, bool) {
	p.t.Helper()
	id, ok := p.b.Pick()
	if want, picked := p.m.pick(); id != want || ok != picked {
		p.t.Fatalf("Pick() = %d, %t, want %d, %t", id, ok, want, picked)
	}
	p.look()
	return id, ok
}

func (p pair) drop(id int) bool {
	p.t.Helper()
	got, want := p.b.Drop(id), p.m.drop(id)
	if got != want {
		p.t.Fatalf("Drop(%d) = %t, want %t", id, got, want)
	}
	p.look()
	p.lookAt(id)
	return got
}

func (p pair) free(id int) bool {
	p.t.Helper()
	got, want := p.b.Free(id), p.m.free(id)
	if got != want {
		p.t.Fatalf("Free(%d) = %t, want %t", id, got, want)
	}
	p.look()
	p.lookAt(id)
	return got
}

// lookAt holds whether one runs against the model.
func (p pair) lookAt(id int) {
	p.t.Helper()
	if got, want := p.b.Runs(id), slices.Contains(p.m.runs, id); got != want {
		p.t.Fatalf("Runs(%d) = %t, want %t", id, got, want)
	}
}

// expect holds a bulk against who should run, in whatever turn, and who should wait, in turn.
func expect(t *testing.T, b *Bulk, runs, waits []int) {
	t.Helper()
	if got := b.Busy(); got != len(runs) {
		t.Fatalf("Busy() = %d, want %d: %v", got, len(runs), runs)
	}
	for _, id := range runs {
		if !b.Runs(id) {
			t.Fatalf("%d doesn't run, want %v", id, runs)
		}
	}
	if got := b.Waiting(); !slices.Equal(got, waits) {
		t.Fatalf("Waiting() = %v, want %v", got, waits)
	}
	for _, id := range waits {
		if b.Runs(id) {
			t.Fatalf("%d runs, and should wait: %v", id, waits)
		}
	}
}

// expectAdmit holds what Admit tells, and who runs by that, against what it should be.
func expectAdmit(t *testing.T, b *Bulk, id, want int, begun ...int) {
	t.Helper()
	if how, others := b.Admit(id); how != want || !slices.Equal(others, begun) {
		t.Fatalf("Admit(%d) = %d, %v, want %d, %v", id, how, others, want, begun)
	}
}

// expectPick holds what Pick tells against who should be picked.
func expectPick(t *testing.T, b *Bulk, want int, picked bool) {
	t.Helper()
	if id, ok := b.Pick(); id != want || ok != picked {
		t.Fatalf("Pick() = %d, %t, want %d, %t", id, ok, want, picked)
	}
}

func pool(workers, most int) api.Conf {
	return api.Conf{Mode: api.Pool, Pool: workers, Queue: most}
}

func semaphore(permits int) api.Conf {
	return api.Conf{Mode: api.Semaphore, Sem: permits}
}

// upTo are the numbers from a first one on, so many.
func upTo(first, count int) []int {
	var all []int
	for n := range count {
		all = append(all, first+n)
	}
	return all
}

// full is a bulk of which all workers are busy (1, 2 ..), and whose queue is full (those behind).
func full(t *testing.T, workers, most int) *Bulk {
	t.Helper()
	b := New(pool(workers, most))
	for _, id := range upTo(1, workers) {
		expectAdmit(t, b, id, Run)
	}
	for _, id := range upTo(workers+1, most) {
		expectAdmit(t, b, id, Wait)
	}
	expect(t, b, upTo(1, workers), upTo(workers+1, most))
	return b
}

// sizes calls for each number of workers, and each length of a queue, that may be.
func sizes(do func(workers, most int)) {
	for workers := range api.MaxPool + 1 {
		for most := range api.MaxQueue + 1 {
			do(workers, most)
		}
	}
}

// refused are numbers that permit.New and ring.New refuse; some are ones that they take, if all but their last bits are lost.
func refused() []int {
	return []int{math.MinInt, math.MinInt32, -1 << 32, -256, -8, -2, -1, 9, 10, 100, 256, 257, 1 << 16, 1 << 32, 1<<32 + 1, 1<<32 + 8, math.MaxInt32, math.MaxInt}
}

// ids are numbers that a call may have, the least and the greatest one too.
func ids() []int {
	return []int{0, 1, -1, math.MaxInt, math.MinInt, 1 << 32, -1 << 32, 1<<32 + 1}
}

// The chapter's constants, which have no type of their own.
func TestConstants(t *testing.T) {
	told := [3]uint8{Run, Wait, Reject} // does not compile, if they have a type
	if told != [3]uint8{1, 2, 3} {
		t.Errorf("what is told: %v", told)
	}
}

// P10.1: New, of all sizes that may be: nobody runs, nobody waits.
func TestNew(t *testing.T) {
	sizes(func(workers, most int) {
		for _, c := range []api.Conf{pool(workers, most), semaphore(workers)} {
			b := New(c)
			if b == nil {
				t.Fatalf("New(%+v) is nil", c)
			}
			expect(t, b, nil, nil)
			for _, id := range ids() {
				if b.Runs(id) {
					t.Fatalf("%d runs in a new one", id)
				}
			}
		}
	})
}

// P10.1: of the mode Pool there are Pool workers, and a queue of Queue: so many run, so many wait, and the others are refused.
func TestNewOfPool(t *testing.T) {
	sizes(func(workers, most int) {
		b := full(t, workers, most)
		for _, id := range upTo(100, 3) {
			expectAdmit(t, b, id, Reject)
			expect(t, b, upTo(1, workers), upTo(workers+1, most))
		}
	})
}

// P10.1: of the mode Semaphore there are Sem permits, and nobody waits, whatever Queue is.
func TestNewOfSemaphore(t *testing.T) {
	for permits := range api.MaxSem + 1 {
		for _, most := range append(refused(), upTo(0, api.MaxQueue+1)...) {
			c := semaphore(permits)
			c.Queue = most
			b := New(c)
			if b == nil {
				t.Fatalf("New(%+v) is nil", c)
			}
			for _, id := range upTo(1, permits) {
				expectAdmit(t, b, id, Run)
			}
			for _, id := range upTo(100, 3) {
				expectAdmit(t, b, id, Reject)
				expect(t, b, upTo(1, permits), nil)
			}
		}
	}
}

// P10.1: no field but those of its mode plays a part.
func TestNewOfItsModeAlone(t *testing.T) {
	for _, other := range append(refused(), 0, 1, 3) {
		p := newPair(t, api.Conf{Mode: api.Pool, Pool: 2, Queue: 1, Sem: other, FbMax: other, Chain: other, Volume: other, Percent: other, Buckets: other, Batch: other, Force: other})
		s := newPair(t, api.Conf{Mode: api.Semaphore, Sem: 2, Pool: other, Queue: other, Timeout: math.MaxUint64, Sleep: math.MaxUint64, Width: math.MaxUint64, Window: math.MaxUint64})
		for _, id := range upTo(1, 5) {
			p.admit(id)
			s.admit(id)
		}
	}
}

// P10.1: a mode that is none.
func TestNewRefusesModes(t *testing.T) {
	for _, mode := range append(refused(), 0, 3, 4, 258, 1<<32+2) {
		if b := New(api.Conf{Mode: mode, Pool: 1, Queue: 1, Sem: 1}); b != nil {
			t.Errorf("the mode %d is one", mode)
		}
	}
	if New(api.Conf{}) != nil {
		t.Error("the zero configuration has a mode")
	}
}

// P10.1: numbers that permit.New or ring.New refuse.
func TestNewRefusesNumbers(t *testing.T) {
	for _, wrong := range refused() {
		for fine := range api.MaxPool + 1 {
			if New(pool(wrong, fine)) != nil {
				t.Errorf("there are %d workers, with a queue of %d", wrong, fine)
			}
			if New(pool(fine, wrong)) != nil {
				t.Errorf("there are %d workers, with a queue of %d", fine, wrong)
			}
			if c := (api.Conf{Mode: api.Semaphore, Sem: wrong, Pool: fine, Queue: fine}); New(c) != nil {
				t.Errorf("there are %d permits", wrong)
			}
		}
		if New(pool(wrong, wrong)) != nil {
			t.Errorf("there are %d workers, with a queue as long", wrong)
		}
	}
}

// P10.2: the chapter's example.
func TestExample(t *testing.T) {
	b := New(pool(1, 1))
	expectAdmit(t, b, 1, Run)
	expectAdmit(t, b, 2, Wait)
	expectAdmit(t, b, 3, Reject)
	expect(t, b, []int{1}, []int{2})
}

// P10.2: one that runs is refused, whether a worker is left or not, and whether the queue is full or not; nothing changes.
func TestAdmitOfOneThatRuns(t *testing.T) {
	sizes(func(workers, most int) {
		for _, c := range []api.Conf{pool(workers, most), semaphore(workers)} {
			p := newPair(t, c)
			for _, id := range upTo(1, workers+most) {
				p.admit(id)
				for _, again := range slices.Clone(p.m.runs) {
					if how, others := p.admit(again); how != Reject || len(others) != 0 {
						t.Fatalf("%d runs, and admitted again it is told %d, %v", again, how, others)
					}
				}
			}
		}
	})
}

// P10.2: one that waits, at whatever place, is refused, also when a worker is left; neither does it run by that nor does another one, and nobody's turn changes.
func TestAdmitOfOneThatWaits(t *testing.T) {
	for most := 1; most <= api.MaxQueue; most++ {
		for waiting := 1; waiting <= most; waiting++ {
			b := New(pool(1, most))
			for _, id := range upTo(1, 1+waiting) {
				b.Admit(id)
			}
			for _, id := range upTo(2, waiting) {
				expectAdmit(t, b, id, Reject)
				expect(t, b, []int{1}, upTo(2, waiting))
			}
			b.Free(1)
			for _, id := range upTo(2, waiting) {
				expectAdmit(t, b, id, Reject)
				expect(t, b, nil, upTo(2, waiting))
			}
		}
	}
}

// P10.2: who was refused, dropped or freed isn't there, and may be admitted.
func TestAdmitOfOneThatWas(t *testing.T) {
	b := New(pool(1, 1))
	expectAdmit(t, b, 1, Run)
	expectAdmit(t, b, 2, Wait)
	expectAdmit(t, b, 3, Reject)
	b.Drop(2)
	expectAdmit(t, b, 3, Wait)
	expectAdmit(t, b, 2, Reject)
	b.Free(1)
	b.Drop(3)
	expectAdmit(t, b, 2, Run)
	expectAdmit(t, b, 1, Wait)
	b.Free(2)
	expectPick(t, b, 1, true)
	b.Free(1)
	expectAdmit(t, b, 1, Run)
	expect(t, b, []int{1}, nil)
}

// P10.2: a worker is left, and nobody waits: it runs, however that came to be.
func TestAdmitWithNobodyThatWaits(t *testing.T) {
	b := full(t, 2, 2)
	b.Drop(3)
	b.Drop(4)
	expectAdmit(t, b, 5, Wait)
	b.Drop(5)
	b.Free(1)
	expectAdmit(t, b, 6, Run)
	b.Free(2)
	expectAdmit(t, b, 7, Run)
	expect(t, b, []int{6, 7}, nil)
}

// P10.2: a worker is left, somebody waits, and the queue isn't full: it waits, as the last one, and nobody runs by that.
func TestAdmitBehindOthers(t *testing.T) {
	for workers := 1; workers <= api.MaxPool; workers++ {
		b := full(t, workers, api.MaxQueue)
		for _, id := range upTo(1, workers) {
			b.Free(id)
		}
		waits := upTo(workers+1, api.MaxQueue)
		for len(waits) > 1 {
			b.Drop(waits[0])
			waits = waits[1:]
		}
		for id := 100; len(waits) < api.MaxQueue; id++ {
			expectAdmit(t, b, id, Wait)
			waits = append(waits, id)
			expect(t, b, nil, waits)
		}
	}
}

// P10.2: a worker is left, and the queue is full: the first one that waits runs, that one alone, however many workers are left, and is told; the new one waits, as the last one.
func TestAdmitThroughAFullQueue(t *testing.T) {
	for workers := 1; workers <= api.MaxPool; workers++ {
		for most := 1; most <= api.MaxQueue; most++ {
			b := full(t, workers, most)
			for _, id := range upTo(1, workers) {
				b.Free(id)
			}
			runs, waits := []int{}, upTo(workers+1, most)
			for _, id := range upTo(100, workers) {
				first := waits[0]
				runs, waits = append(runs, first), append(waits[1:], id)
				expectAdmit(t, b, id, Wait, first)
				expect(t, b, runs, waits)
			}
			expectAdmit(t, b, 200, Reject)
			expect(t, b, runs, waits)
		}
	}
}

// P10.2: with a queue of none, and of the mode Semaphore, nobody waits: who comes runs, or is refused.
func TestAdmitWithoutAQueue(t *testing.T) {
	for workers := 1; workers <= api.MaxPool; workers++ {
		for _, c := range []api.Conf{pool(workers, 0), semaphore(workers)} {
			b := New(c)
			for _, id := range upTo(1, workers) {
				expectAdmit(t, b, id, Run)
			}
			for _, id := range upTo(1, workers) {
				expectAdmit(t, b, 100, Reject)
				expectPick(t, b, 0, false)
				b.Free(id)
				expectPick(t, b, 0, false)
				expectAdmit(t, b, 100+id, Run)
			}
			expect(t, b, upTo(101, workers), nil)
		}
	}
}

// P10.2: without workers all wait, and nobody is ever picked.
func TestNoWorkers(t *testing.T) {
	for most := range api.MaxQueue + 1 {
		b := full(t, 0, most)
		expectPick(t, b, 0, false)
		expectAdmit(t, b, 100, Reject)
		expect(t, b, nil, upTo(1, most))
	}
	s := New(semaphore(0))
	expectAdmit(t, s, 1, Reject)
	expectPick(t, s, 0, false)
	expect(t, s, nil, nil)
}

// P10.2: Pick lets those that wait run, one at a time, in turn, as long as a worker is left.
func TestPick(t *testing.T) {
	for workers := 1; workers <= api.MaxPool; workers++ {
		for most := 1; most <= api.MaxQueue; most++ {
			b := full(t, workers, most)
			expectPick(t, b, 0, false)
			runs, waits := upTo(1, workers), upTo(workers+1, most)
			for len(waits) > 0 {
				b.Free(runs[0])
				expect(t, b, runs[1:], waits)
				expectPick(t, b, waits[0], true)
				runs, waits = append(runs[1:], waits[0]), waits[1:]
				expect(t, b, runs, waits)
				expectPick(t, b, 0, false)
				expect(t, b, runs, waits)
			}
		}
	}
}

// P10.2: Pick, with many workers left: one alone is picked by each call; with nobody that waits, nobody.
func TestPickWithManyLeft(t *testing.T) {
	b := full(t, 3, 5)
	for _, id := range []int{2, 1, 3} {
		b.Free(id)
	}
	for n, id := range upTo(4, 3) {
		expectPick(t, b, id, true)
		expect(t, b, upTo(4, n+1), upTo(id+1, 4-n))
	}
	expectPick(t, b, 0, false)
	for _, id := range upTo(4, 3) {
		b.Free(id)
	}
	expectPick(t, b, 7, true)
	expectPick(t, b, 8, true)
	for range 3 {
		expectPick(t, b, 0, false)
		expect(t, b, []int{7, 8}, nil)
	}
	for _, fresh := range []*Bulk{New(pool(1, 1)), New(pool(8, 8)), New(semaphore(8))} {
		expectPick(t, fresh, 0, false)
		expect(t, fresh, nil, nil)
	}
}

// P10.3: Drop, at each place: the others keep their turn; no worker plays a part.
func TestDrop(t *testing.T) {
	for most := 1; most <= api.MaxQueue; most++ {
		for _, id := range upTo(3, most) {
			b := full(t, 2, most)
			if !b.Drop(id) {
				t.Fatalf("%d waits, and isn't dropped", id)
			}
			waits := upTo(3, most)
			without(&waits, id)
			expect(t, b, []int{1, 2}, waits)
			if b.Drop(id) {
				t.Fatalf("%d is dropped twice", id)
			}
			expect(t, b, []int{1, 2}, waits)
			last := 1
			for _, next := range waits {
				b.Free(last)
				expectPick(t, b, next, true)
				last = next
			}
			b.Free(last)
			expectPick(t, b, 0, false)
			expect(t, b, []int{2}, nil)
		}
	}
}

// P10.3: one that is dropped leaves a place: another one waits there, as the last one.
func TestDropLeavesAPlace(t *testing.T) {
	b := full(t, 1, 3)
	expectAdmit(t, b, 5, Reject)
	b.Drop(3)
	expectAdmit(t, b, 5, Wait)
	expectAdmit(t, b, 3, Reject)
	expect(t, b, []int{1}, []int{2, 4, 5})
}

// P10.3: Drop of one that runs, and of one that isn't there: false, and nothing changes.
func TestDropOfOneThatDoesNotWait(t *testing.T) {
	b := full(t, 2, 2)
	expectAdmit(t, b, 5, Reject)
	for _, id := range append(ids(), 2, 5, 6, 100) {
		if b.Drop(id) {
			t.Fatalf("%d is dropped, and doesn't wait", id)
		}
		expect(t, b, []int{1, 2}, []int{3, 4})
	}
	b.Free(1)
	b.Pick()
	if b.Drop(3) || b.Drop(1) {
		t.Fatal("one that was picked, or freed, is dropped")
	}
	expect(t, b, []int{2, 3}, []int{4})
	s := New(semaphore(2))
	s.Admit(1)
	if s.Drop(1) || s.Drop(2) || s.Drop(0) {
		t.Fatal("somebody waits for a permit")
	}
	expect(t, s, []int{1}, nil)
}

// P10.3: Free, in whatever turn; nobody runs by that.
func TestFree(t *testing.T) {
	for workers := 1; workers <= api.MaxPool; workers++ {
		for begin := range workers {
			for _, c := range []api.Conf{pool(workers, 3), semaphore(workers)} {
				p := newPair(t, c)
				for _, id := range upTo(1, workers+3) {
					p.admit(id)
				}
				for n := range workers {
					id := (begin+3*n)%workers + 1
					if was := slices.Contains(p.m.runs, id); p.free(id) != was || p.free(id) {
						t.Fatalf("%d is freed wrongly", id)
					}
				}
			}
		}
	}
}

// P10.3: Free of one that waits, and of one that isn't there: false, and nothing changes.
func TestFreeOfOneThatDoesNotRun(t *testing.T) {
	b := full(t, 1, 3)
	expectAdmit(t, b, 5, Reject)
	for _, id := range []int{0, -1, 2, 3, 4, 5, 6, math.MaxInt, math.MinInt, 1<<32 + 1} {
		if b.Free(id) {
			t.Fatalf("%d is freed, and doesn't run", id)
		}
		expect(t, b, []int{1}, []int{2, 3, 4})
	}
	b.Drop(3)
	if b.Free(3) {
		t.Fatal("one that was dropped is freed")
	}
	expect(t, b, []int{1}, []int{2, 4})
}

// P10.3, P1: a Bulk that is nil.
func TestNil(t *testing.T) {
	for _, b := range []*Bulk{nil, New(api.Conf{}), New(pool(-1, 1)), New(pool(1, api.MaxQueue+1)), New(semaphore(api.MaxSem + 1))} {
		for range 2 {
			for _, id := range ids() {
				expectAdmit(t, b, id, Reject)
				if b.Drop(id) || b.Free(id) || b.Runs(id) {
					t.Fatalf("%d waits or runs in one that is nil", id)
				}
				expectPick(t, b, 0, false)
				expect(t, b, nil, nil)
			}
		}
	}
}

// P1, P10.2, P10.3: any number is an id, also those that no command has.
func TestAnyNumberIsAnId(t *testing.T) {
	all := ids()
	for _, c := range []api.Conf{pool(3, 4), pool(8, 0), pool(1, 7), pool(0, 8), semaphore(5)} {
		for turn := range all {
			p := newPair(t, c)
			for range 2 {
				for n := range all {
					p.admit(all[(n+turn)%len(all)])
				}
			}
			for _, id := range all {
				p.drop(id)
				p.pick()
				p.free(id)
				p.admit(id)
			}
			for _, id := range all {
				p.free(id)
				p.pick()
			}
		}
	}
}

// P10.2: the 0 that is picked isn't taken for nobody.
func TestZeroIsAnId(t *testing.T) {
	b := New(pool(1, 1))
	b.Admit(5)
	expectAdmit(t, b, 0, Wait)
	b.Free(5)
	expectAdmit(t, b, 6, Wait, 0)
	expect(t, b, []int{0}, []int{6})
	expectAdmit(t, b, 0, Reject)
	b.Free(0)
	b.Drop(6)
	expectAdmit(t, b, 7, Run)
	expectAdmit(t, b, 0, Wait)
	b.Free(7)
	expectPick(t, b, 0, true)
	expect(t, b, []int{0}, nil)
}

// R3: what Admit and Waiting told is the caller's own: what is done to it plays no part, nor what is done to the bulk afterwards.
func TestWhatIsToldIsTheCallersOwn(t *testing.T) {
	b := full(t, 1, 3)
	one, other := b.Waiting(), b.Waiting()
	one[0] = 9
	_ = append(one[:1], 8, 7, 6, 5)
	expect(t, b, []int{1}, []int{2, 3, 4})
	if !slices.Equal(other, []int{2, 3, 4}) {
		t.Errorf("two lists share what they tell: %v", other)
	}
	b.Free(1)
	_, begun := b.Admit(5)
	if !slices.Equal(begun, []int{2}) {
		t.Fatalf("%v run, want 2", begun)
	}
	b.Free(2)
	_, later := b.Admit(6)
	if !slices.Equal(begun, []int{2}) || !slices.Equal(later, []int{3}) {
		t.Errorf("what was told is %v, and then %v", begun, later)
	}
	begun[0] = 9
	_ = append(later[:0], 8, 7, 6, 5)
	expect(t, b, []int{3}, []int{4, 5, 6})
	if b.Runs(8) || b.Runs(9) {
		t.Error("one runs that only the caller wrote")
	}
	b.Drop(4)
	if !slices.Equal(other, []int{2, 3, 4}) {
		t.Errorf("a list that was told is %v", other)
	}
}

// P10.1: what is asked alone changes nothing, nor does what is refused.
func TestAskingChangesNothing(t *testing.T) {
	b, same := full(t, 2, 3), full(t, 2, 3)
	for _, id := range append(ids(), upTo(2, 6)...) {
		b.Runs(id)
		b.Busy()
		b.Waiting()
		b.Pick()
		b.Admit(id)
		if id != 3 && id != 4 && id != 5 {
			b.Drop(id)
		}
		if id != 1 && id != 2 {
			b.Free(id)
		}
		if !reflect.DeepEqual(b, same) {
			t.Fatalf("of %d it is changed", id)
		}
	}
}

// R4: a bulk plays no part at another one, also of one configuration.
func TestBulksAreApart(t *testing.T) {
	c := pool(1, 2)
	a, b := New(c), New(c)
	c.Pool, c.Queue = 8, 8
	for _, id := range upTo(1, 3) {
		a.Admit(id)
	}
	expect(t, b, nil, nil)
	expectAdmit(t, a, 4, Reject)
	expectAdmit(t, b, 3, Run)
	expectAdmit(t, b, 1, Wait)
	a.Free(1)
	a.Drop(3)
	expect(t, b, []int{3}, []int{1})
	expect(t, a, nil, []int{2})
}

// Nothing is kept of those that were dropped or freed.
func TestNothingIsKept(t *testing.T) {
	for _, c := range []api.Conf{pool(3, 4), pool(8, 8), pool(1, 0), semaphore(4)} {
		b := New(c)
		for id := range 100 {
			b.Admit(id)
			b.Free(id - id%3)
			b.Drop(id - id%5)
			if id%7 == 0 {
				b.Pick()
			}
		}
		for id := range 100 {
			b.Drop(id)
			b.Free(id)
		}
		if !reflect.DeepEqual(b, New(c)) {
			t.Errorf("of %+v something is kept", c)
		}
	}
}

// anyConf is a configuration of chance that may be, of either mode.
func anyConf(chance *rand.Rand) api.Conf {
	return api.Conf{
		Mode: 1 + chance.Intn(2), Pool: chance.Intn(api.MaxPool + 1), Queue: chance.Intn(api.MaxQueue + 1), Sem: chance.Intn(api.MaxSem + 1),
	}
}

// P10.4, P4: never do more run than there are workers, nor more wait than the queue is long; who is refused is so just when all is full, or it is there already.
func TestBounds(t *testing.T) {
	for seed := range int64(400) {
		chance := rand.New(rand.NewSource(seed))
		c := anyConf(chance)
		workers, most := c.Pool, c.Queue
		if c.Mode == api.Semaphore {
			workers, most = c.Sem, 0
		}
		b := New(c)
		for range 300 {
			id := chance.Intn(20)
			switch chance.Intn(8) {
			case 0:
				b.Pick()
			case 1:
				b.Drop(id)
			case 2, 3:
				b.Free(id)
			default:
				there := b.Runs(id) || slices.Contains(b.Waiting(), id)
				allFull := b.Busy() == workers && len(b.Waiting()) == most
				how, _ := b.Admit(id)
				if (how == Reject) != (there || allFull) {
					t.Fatalf("seed %d: %d is told %d; it was there: %t, all was full: %t", seed, id, how, there, allFull)
				}
				if runs, waits := b.Runs(id), slices.Contains(b.Waiting(), id); !there && (runs != (how == Run) || waits != (how == Wait)) {
					t.Fatalf("seed %d: %d is told %d; it runs: %t, it waits: %t", seed, id, how, runs, waits)
				}
			}
			if b.Busy() > workers || len(b.Waiting()) > most {
				t.Fatalf("seed %d: %d run, of %d, and %d wait, of %d", seed, b.Busy(), workers, len(b.Waiting()), most)
			}
			if runs := slices.DeleteFunc(upTo(0, 20), func(id int) bool { return !b.Runs(id) }); len(runs) != b.Busy() {
				t.Fatalf("seed %d: %v run, and %d are told", seed, runs, b.Busy())
			}
		}
	}
}

// P10.4: who waits runs in turn, but who is dropped, whether by Pick or by another one's Admit.
func TestInTurn(t *testing.T) {
	for seed := range int64(400) {
		chance := rand.New(rand.NewSource(seed))
		b := New(pool(1+chance.Intn(api.MaxPool), 1+chance.Intn(api.MaxQueue)))
		var waited, begun, running []int
		for next := range 300 { // no two are alike
			switch chance.Intn(6) {
			case 0:
				if id, ok := b.Pick(); ok {
					begun, running = append(begun, id), append(running, id)
				}
			case 1:
				if id := next - chance.Intn(20); b.Drop(id) {
					without(&waited, id)
				}
			case 2, 3:
				if len(running) > 0 {
					id := running[chance.Intn(len(running))]
					if !b.Free(id) {
						t.Fatalf("seed %d: %d doesn't run", seed, id)
					}
					without(&running, id)
				}
			default:
				how, others := b.Admit(next)
				begun, running = append(begun, others...), append(running, others...)
				if how == Run {
					running = append(running, next)
				} else if how == Wait {
					waited = append(waited, next)
				}
			}
		}
		if still := append(begun, b.Waiting()...); !slices.Equal(still, waited) {
			t.Fatalf("seed %d: ran in turn, and wait: %v, want %v", seed, still, waited)
		}
	}
}

// ask is one of the four things that may be done with a number.
func (p pair) ask(kind, id int) {
	p.t.Helper()
	switch kind {
	case 0:
		p.admit(id)
	case 1:
		p.pick()
	case 2:
		p.drop(id)
	case 3:
		p.free(id)
	}
}

// P2: all ways to ask a small one a few times, of three calls: each is admitted, dropped or freed, or one is picked.
func TestAllShortWays(t *testing.T) {
	const asked, kinds = 5, 10
	ways := 1
	for range asked {
		ways *= kinds
	}
	for _, c := range []api.Conf{pool(1, 1), pool(1, 2), pool(2, 1), semaphore(1)} {
		for way := range ways {
			p := newPair(t, c)
			for range asked {
				if step := way % kinds; step == 9 {
					p.pick()
				} else {
					p.ask([]int{0, 2, 3}[step/3], step%3)
				}
				way /= kinds
			}
		}
	}
}

// P2, P10.1 to P10.4: whatever is asked of one of whatever size, of either mode, it is as the chapter's words have it.
func TestAsTheModel(t *testing.T) {
	for seed := range int64(600) {
		chance := rand.New(rand.NewSource(seed))
		p := newPair(t, anyConf(chance))
		all := append(ids(), upTo(2, 12)...)
		for range 300 {
			p.ask([]int{0, 0, 0, 0, 1, 2, 3, 3}[chance.Intn(8)], all[chance.Intn(len(all))])
			p.lookAt(all[chance.Intn(len(all))])
		}
	}
}
