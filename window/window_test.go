package window

import (
	"math"
	"math/rand"
	"testing"

	"porpoise/api"
)

const most = math.MaxUint64

// told is what Counts tells.
type told = [Kinds]uint64

// event is something that was counted, and when.
type event struct {
	at   uint64
	kind int
	n    uint64
}

// model is the chapter's words, over a list of all that was counted.
type model struct {
	buckets, width, time uint64
	events               []event
}

// together are two numbers, or the greatest one, if that is more.
func together(a, b uint64) uint64 {
	if a+b < a {
		return most
	}
	return a + b
}

func both(a, b told) told {
	for kind := range a {
		a[kind] = together(a[kind], b[kind])
	}
	return a
}

func (m *model) add(now uint64, kind int, n uint64) bool {
	if kind < 0 || kind > 4 {
		return false
	}
	m.time = max(m.time, now)
	m.events = append(m.events, event{m.time, kind, n})
	return true
}

func (m *model) counts(now uint64) told {
	m.time = max(m.time, now)
	return m.at(m.time)
}

// at is what would be told at a time that isn't below the model's own; the model stays as it is.
func (m *model) at(now uint64) told {
	var c told
	for _, e := range m.events {
		if now/m.width-e.at/m.width < m.buckets {
			c[e.kind] = together(c[e.kind], e.n)
		}
	}
	return c
}

// pair is a window, and what it should be.
type pair struct {
	t *testing.T
	w *Window
	m *model
}

func newPair(t *testing.T, buckets int, width uint64) pair {
	t.Helper()
	p := pair{t, made(t, buckets, width), &model{buckets: uint64(buckets), width: width}}
	p.look()
	return p
}

// made is a new window that may be.
func made(t *testing.T, buckets int, width uint64) *Window {
	t.Helper()
	w := New(buckets, width)
	if w == nil {
		t.Fatalf("New(%d, %d) is nil", buckets, width)
	}
	return w
}

// at is what a window would tell at a time; the window stays as it is.
func at(w *Window, now uint64) told {
	twin := *w
	return twin.Counts(now)
}

// look holds what would be told, at this time and at those at which buckets pass, against the model.
func (p pair) look() {
	p.t.Helper()
	begin := p.m.time / p.m.width * p.m.width
	for passed := range p.m.buckets + 2 {
		for _, now := range []uint64{begin + passed*p.m.width, begin + passed*p.m.width + p.m.width - 1} {
			if now < begin { // no time is that great
				continue
			}
			if got, want := at(p.w, now), p.m.at(max(now, p.m.time)); got != want {
				p.t.Fatalf("%d buckets of %d, the time is %d: Counts(%d) = %v, want %v", p.m.buckets, p.m.width, p.m.time, now, got, want)
			}
		}
	}
}

func (p pair) add(now uint64, kind int, n uint64) {
	p.t.Helper()
	if got, want := p.w.Add(now, kind, n), p.m.add(now, kind, n); got != want {
		p.t.Fatalf("Add(%d, %d, %d) = %t, want %t", now, kind, n, got, want)
	}
	p.look()
}

func (p pair) counts(now uint64) {
	p.t.Helper()
	if got, want := p.w.Counts(now), p.m.counts(now); got != want {
		p.t.Fatalf("%d buckets of %d, the time is %d: Counts(%d) = %v, want %v", p.m.buckets, p.m.width, p.m.time, now, got, want)
	}
	p.look()
}

func (p pair) reset() {
	p.t.Helper()
	p.w.Reset()
	p.m.events = nil
	p.look()
}

// expect holds what a window tells at a time against what it should.
func expect(t *testing.T, w *Window, now uint64, want told) {
	t.Helper()
	if got := w.Counts(now); got != want {
		t.Errorf("Counts(%d) = %v, want %v", now, got, want)
	}
}

// count lets a window count what it has to.
func count(t *testing.T, w *Window, now uint64, kind int, n uint64) {
	t.Helper()
	if !w.Add(now, kind, n) {
		t.Errorf("Add(%d, %d, %d) is false", now, kind, n)
	}
}

// widths are such as may be: the least, the greatest, and some between, of which some don't divide the greatest time.
func widths() []uint64 {
	return []uint64{1, 2, 3, 7, 10, 64, 1000, 1 << 32, 1<<32 + 1, api.MaxTicks - 1, api.MaxTicks}
}

func wrongWidths() []uint64 {
	return []uint64{0, api.MaxTicks + 1, api.MaxTicks + 2, 1 << 41, 1<<63 - 1, 1 << 63, 1<<63 + 1, most - 1, most}
}

func wrongBuckets() []int {
	return []int{math.MinInt, math.MinInt + 1, math.MinInt32, -8, -1, 0, api.MaxBuckets + 1, api.MaxBuckets + 2, 256, 257, 1 << 32, 1<<32 + 3, math.MaxInt - 1, math.MaxInt}
}

func wrongKinds() []int {
	return []int{math.MinInt, math.MinInt + 1, math.MinInt32, -256, -5, -1, Kinds, Kinds + 1, 8, 256, 257, 1 << 32, 1<<32 + 1, math.MaxInt - 1, math.MaxInt}
}

// times are some at which a division, or a sum, may go wrong.
func times() []uint64 {
	return []uint64{0, 1, 9, 10, 11, 1<<32 - 1, 1 << 32, 1<<32 + 1, api.MaxTicks - 1, api.MaxTicks, api.MaxTicks + 1, 1<<63 - 1, 1 << 63, most - 1, most}
}

// each calls for all sizes of windows that may be.
func each(do func(buckets int, width uint64)) {
	for buckets := 1; buckets <= api.MaxBuckets; buckets++ {
		for _, width := range widths() {
			do(buckets, width)
		}
	}
}

// The chapter's constants, which have no type of their own.
func TestKinds(t *testing.T) {
	if got, want := [...]int{Success, Failure, Timeout, Rejected, Short, Kinds}, [...]int{0, 1, 2, 3, 4, 5}; got != want {
		t.Errorf("kinds are %v, want %v", got, want)
	}
	var small uint8 = Kinds // does not compile, if Kinds has a type
	if small != 5 {
		t.Errorf("there are %d kinds", small)
	}
}

// P6.1: New, of all sizes that may be: nothing was counted.
func TestNew(t *testing.T) {
	each(func(buckets int, width uint64) {
		for _, now := range times() {
			expect(t, made(t, buckets, width), now, told{})
		}
	})
}

// P6.1: New, of sizes that may not be: buckets, a width, and both.
func TestNewRefuses(t *testing.T) {
	for _, buckets := range wrongBuckets() {
		for _, width := range append(widths(), wrongWidths()...) {
			if New(buckets, width) != nil {
				t.Errorf("New(%d, %d) is a window", buckets, width)
			}
		}
	}
	for buckets := 1; buckets <= api.MaxBuckets; buckets++ {
		for _, width := range wrongWidths() {
			if New(buckets, width) != nil {
				t.Errorf("New(%d, %d) is a window", buckets, width)
			}
		}
	}
}

// P6.1: the limits are the chapter's numbers.
func TestLimits(t *testing.T) {
	if New(8, 1<<40) == nil || New(9, 1<<40) != nil || New(8, 1<<40+1) != nil {
		t.Error("other windows may be than those of 8 buckets of 2^40 ticks")
	}
}

// P6.1: Add, of each kind: it is counted as that, and as no other one.
func TestAdd(t *testing.T) {
	each(func(buckets int, width uint64) {
		for kind := range Kinds {
			w := made(t, buckets, width)
			var want told
			for _, n := range []uint64{1, 2, 0, 1 << 40} {
				count(t, w, 5, kind, n)
				want[kind] += n
				expect(t, w, 5, want)
			}
		}
	})
}

// P6.1: kinds are counted apart, in one bucket and over several.
func TestKindsAreApart(t *testing.T) {
	w := made(t, 3, 10)
	for kind := range Kinds {
		count(t, w, 0, kind, uint64(kind)+1)
		count(t, w, 9, kind, 10)
	}
	expect(t, w, 9, told{11, 12, 13, 14, 15})
	count(t, w, 10, Timeout, 100)
	count(t, w, 29, Short, 200)
	expect(t, w, 29, told{11, 12, 113, 14, 215})
	expect(t, w, 30, told{0, 0, 100, 0, 200})
}

// P6.1: a kind that is none: false, and nothing is changed, whatever the time.
func TestAddRefuses(t *testing.T) {
	each(func(buckets int, width uint64) {
		w := made(t, buckets, width)
		count(t, w, 5, Failure, 3)
		was := *w
		for _, kind := range wrongKinds() {
			for _, now := range times() {
				for _, n := range []uint64{0, 1, most} {
					if w.Add(now, kind, n) {
						t.Fatalf("Add(%d, %d, %d) is true", now, kind, n)
					}
				}
			}
		}
		if *w != was {
			t.Fatalf("refused, it is %v, and was %v", *w, was)
		}
		expect(t, w, 5, told{0, 3})
	})
}

// P6.2, P6.3: what was counted is told up to the last tick of the last bucket, and at the next one no more, wherever in its bucket it was counted.
func TestToldUntilPassed(t *testing.T) {
	each(func(buckets int, width uint64) {
		for _, bucket := range []uint64{0, 1, 2, 7, 8, 9, 1000} {
			begin := bucket * width
			next := begin + uint64(buckets)*width
			for _, when := range []uint64{begin, begin + width/2, begin + width - 1} {
				w := made(t, buckets, width)
				count(t, w, when, Rejected, 7)
				expect(t, w, when, told{Rejected: 7})
				expect(t, w, begin+width-1, told{Rejected: 7})
				expect(t, w, next-1, told{Rejected: 7})
				expect(t, w, next, told{})
				expect(t, w, next+uint64(buckets)*width, told{})
			}
		}
	})
}

// P6.3: however time passes, asked at each bucket, at some, or at none between, the same is told.
func TestToldHoweverAsked(t *testing.T) {
	for buckets := 1; buckets <= api.MaxBuckets; buckets++ {
		for step := uint64(1); step <= 12; step++ {
			p := newPair(t, buckets, 10)
			p.add(3, Success, 5)
			p.add(14, Failure, 7)
			for now := uint64(14); now < 130; now += 10 * step {
				p.counts(now)
			}
		}
	}
}

// P6.2: each bucket leaves by itself, as it came.
func TestBucketsLeaveOneByOne(t *testing.T) {
	for buckets := 1; buckets <= api.MaxBuckets; buckets++ {
		w := made(t, buckets, 10)
		for bucket := range uint64(30) { // the bucket k has 2^k: which are told, the sum's bits tell
			count(t, w, 10*bucket+bucket%10, Success, 1<<bucket)
			want := uint64(1)<<(bucket+1) - 1
			if bucket >= uint64(buckets) {
				want -= 1<<(bucket+1-uint64(buckets)) - 1
			}
			expect(t, w, 10*bucket+9, told{want})
		}
	}
}

// P6.2: of one bucket just the bucket of now is told.
func TestOneBucket(t *testing.T) {
	w := made(t, 1, 10)
	count(t, w, 0, Success, 1)
	count(t, w, 9, Success, 2)
	expect(t, w, 9, told{3})
	expect(t, w, 10, told{})
	count(t, w, 10, Success, 4)
	expect(t, w, 19, told{4})
	count(t, w, 20, Success, 8)
	expect(t, w, 20, told{8})
}

// P6.2: of the width 1 each tick is a bucket.
func TestWidthOfOne(t *testing.T) {
	w := made(t, 3, 1)
	for now := range uint64(4) {
		count(t, w, now, Timeout, 1<<now)
	}
	expect(t, w, 3, told{Timeout: 2 + 4 + 8})
	expect(t, w, 4, told{Timeout: 4 + 8})
	expect(t, w, 5, told{Timeout: 8})
	expect(t, w, 6, told{})
}

// P6.2: the greatest window: 8 buckets of 2^40 ticks.
func TestGreatestWindow(t *testing.T) {
	w := made(t, 8, 1<<40)
	count(t, w, 0, Success, 1)
	count(t, w, 1<<40-1, Success, 2)
	count(t, w, 1<<40, Success, 4)
	expect(t, w, 1<<43-1, told{7})
	expect(t, w, 1<<43, told{4})
	expect(t, w, 1<<43+1<<40-1, told{4})
	expect(t, w, 1<<43+1<<40, told{})
}

// P6.2: times that are far apart: all buckets have passed, once, many times, or so often that a place of the array is the same again.
func TestTimesFarApart(t *testing.T) {
	each(func(buckets int, width uint64) {
		if width > 1<<32 {
			return // such times would be too great
		}
		all := uint64(buckets) * width
		for _, far := range []uint64{all, all + width, 2*all - width, 2 * all, 3 * all, 1000 * all, 1000*all + width, 1 << 62} {
			p := newPair(t, buckets, width)
			for bucket := range uint64(buckets) {
				p.add(bucket*width, Failure, bucket+1)
			}
			p.add(all-1+far, Short, 9)
			expect(t, p.w, all-1+far, told{Short: 9})
			p.counts(all - 1 + 2*far)
			p.add(all-1+2*far, Short, 4)
		}
	})
}

// P6.2: the greatest time: nothing wraps round, and its bucket is the last one for ever.
func TestGreatestTime(t *testing.T) {
	each(func(buckets int, width uint64) {
		w := made(t, buckets, width)
		count(t, w, 0, Success, 1)
		count(t, w, most, Success, 2)
		expect(t, w, most, told{2})
		count(t, w, most, Failure, 4)
		count(t, w, 0, Failure, 8)
		for _, now := range times() {
			expect(t, w, now, told{2, 12})
		}
		w.Reset()
		expect(t, w, 0, told{})
		count(t, w, 3, Short, 5)
		expect(t, w, most, told{Short: 5})
	})
}

// P6.2: the last buckets ahead of the greatest time, the last of which may be a short one.
func TestAheadOfGreatestTime(t *testing.T) {
	each(func(buckets int, width uint64) {
		for back := range uint64(buckets) + 2 {
			p := newPair(t, buckets, width)
			p.add(most-back*width, Success, 1)
			p.add(most-back*width/2, Failure, 2)
			p.counts(most - 1)
			p.counts(most)
		}
	})
}

// P6.1, P6.2: counts that would go over are the greatest number: in one bucket, of many together, and of each kind by itself.
func TestCountsThatGoOver(t *testing.T) {
	w := made(t, 3, 10)
	count(t, w, 0, Success, most)
	count(t, w, 0, Success, 1)
	count(t, w, 0, Failure, most-3)
	count(t, w, 0, Failure, 3)
	count(t, w, 0, Timeout, most-3)
	count(t, w, 0, Timeout, 4)
	count(t, w, 0, Rejected, most-3)
	count(t, w, 0, Rejected, 2)
	count(t, w, 0, Short, 1<<63)
	count(t, w, 0, Short, 1<<63)
	expect(t, w, 9, told{most, most, most, most - 1, most})
	for kind := range Kinds {
		count(t, w, 10, kind, 2)
	}
	expect(t, w, 20, told{most, most, most, most, most})
	expect(t, w, 30, told{2, 2, 2, 2, 2}) // what went over leaves with its bucket alone
}

// P6.2: many buckets together go over, none by itself; and no more, when enough have passed.
func TestManyTogetherGoOver(t *testing.T) {
	const quarter = 1 << 62
	w := made(t, 8, 10)
	for bucket := range uint64(8) {
		count(t, w, 10*bucket, Success, quarter)
		want := uint64(most)
		if bucket < 3 {
			want = quarter * (bucket + 1)
		}
		expect(t, w, 10*bucket, told{want})
	}
	for bucket := uint64(8); bucket <= 16; bucket++ {
		want := uint64(most)
		if left := 15 - bucket; bucket > 15 {
			want = 0
		} else if left < 4 {
			want = quarter * left
		}
		expect(t, w, 10*bucket, told{want})
	}
}

// Time doesn't go back: below an Add that counted, also one of 0, a time is as that.
func TestTimeBelowAnAdd(t *testing.T) {
	for _, n := range []uint64{0, 1} {
		w := made(t, 3, 10)
		count(t, w, 5, Success, 2)
		count(t, w, 25, Short, n)
		count(t, w, 5, Failure, 4) // as at 25
		count(t, w, 0, Timeout, 8) // and so is this
		expect(t, w, 0, told{2, 4, 8, 0, n})
		expect(t, w, 30, told{0, 4, 8, 0, n})
		expect(t, w, 49, told{0, 4, 8, 0, n})
		expect(t, w, 50, told{})
	}
}

// Time doesn't go back: below an Add that didn't count a time is as it is.
func TestTimeBelowAnAddThatDidnt(t *testing.T) {
	for _, kind := range wrongKinds() {
		w := made(t, 3, 10)
		count(t, w, 5, Success, 2)
		for _, now := range []uint64{25, 35, 1000, most} {
			if w.Add(now, kind, 1) {
				t.Fatalf("Add of the kind %d is true", kind)
			}
		}
		count(t, w, 15, Failure, 4)
		expect(t, w, 29, told{2, 4})
		expect(t, w, 30, told{0, 4})
		expect(t, w, 39, told{0, 4})
		expect(t, w, 40, told{})
	}
}

// Time doesn't go back: below a Counts, also one of a window in which nothing was counted, a time is as that.
func TestTimeBelowCounts(t *testing.T) {
	w := made(t, 3, 10)
	expect(t, w, 25, told{})
	count(t, w, 5, Failure, 4) // as at 25
	expect(t, w, 0, told{0, 4})
	expect(t, w, 49, told{0, 4})
	expect(t, w, 50, told{})
	expect(t, w, 49, told{}) // what has passed does not come back
	count(t, w, 49, Short, 1)
	expect(t, w, 79, told{Short: 1})
	expect(t, w, 80, told{})
}

// Time doesn't go back: within one bucket it plays no part.
func TestTimeBelowInOneBucket(t *testing.T) {
	w := made(t, 2, 10)
	count(t, w, 19, Success, 1)
	count(t, w, 10, Success, 2)
	expect(t, w, 15, told{3})
	expect(t, w, 29, told{3})
	expect(t, w, 30, told{})
}

// P6.2: Reset: nothing was counted, in no bucket and of no kind; what is counted and told behind it is as ever.
func TestReset(t *testing.T) {
	each(func(buckets int, width uint64) {
		p := newPair(t, buckets, width)
		p.reset()
		for bucket := range 2 * uint64(buckets) {
			for kind := range Kinds {
				p.add(bucket*width, kind, 3)
			}
		}
		p.reset()
		p.counts(p.m.time)
		if got := p.w.Counts(p.m.time); got != (told{}) {
			t.Errorf("%d buckets of %d: reset, it tells %v", buckets, width, got)
		}
		p.add(p.m.time, Timeout, 6)
		p.counts(p.m.time + width)
		p.reset()
		p.reset()
		p.counts(p.m.time + uint64(buckets)*width)
	})
}

// P6.2: the time stays at a Reset, whether an Add or Counts asked with it.
func TestResetKeepsTheTime(t *testing.T) {
	for _, ask := range []func(*Window){
		func(w *Window) { w.Add(25, Success, 2) },
		func(w *Window) { w.Counts(25) },
	} {
		w := made(t, 3, 10)
		count(t, w, 4, Failure, 1)
		ask(w)
		w.Reset()
		count(t, w, 5, Failure, 4) // as at 25
		expect(t, w, 0, told{0, 4})
		expect(t, w, 49, told{0, 4})
		expect(t, w, 50, told{})
	}
}

// P6.2: a Reset asks with no time.
func TestResetAsksWithNoTime(t *testing.T) {
	w := made(t, 2, 10)
	w.Reset()
	count(t, w, 0, Success, 1)
	expect(t, w, 19, told{1})
	expect(t, w, 20, told{})
}

// P6.2: a Window that is nil.
func TestNil(t *testing.T) {
	for _, w := range []*Window{nil, New(0, 10), New(9, 10), New(2, 0), New(2, api.MaxTicks+1)} {
		for _, now := range times() {
			for kind := -1; kind <= Kinds; kind++ {
				if w.Add(now, kind, 1) {
					t.Errorf("of one that is nil Add(%d, %d, 1) is true", now, kind)
				}
			}
			expect(t, w, now, told{})
			w.Reset()
			expect(t, w, now, told{})
		}
	}
}

// P6.2: the chapter's example.
func TestExample(t *testing.T) {
	w := made(t, 2, 10)
	count(t, w, 5, Success, 1)
	for now := uint64(5); now <= 19; now++ {
		expect(t, w, now, told{1})
	}
	expect(t, w, 20, told{})
}

// P6.3: windows of what was counted by two are both together, also where they go over.
func TestBothTogether(t *testing.T) {
	for seed := range int64(200) {
		chance := rand.New(rand.NewSource(seed))
		buckets, width := 1+chance.Intn(api.MaxBuckets), uint64(1+chance.Intn(20))
		a, b, all := made(t, buckets, width), made(t, buckets, width), made(t, buckets, width)
		now := uint64(0)
		for range 100 {
			now += uint64(chance.Intn(30))
			kind, n := chance.Intn(Kinds), amount(chance)
			one := a
			if chance.Intn(2) == 0 {
				one = b
			}
			count(t, one, now, kind, n)
			count(t, all, now, kind, n)
			expect(t, all, now, both(a.Counts(now), b.Counts(now)))
		}
	}
}

// amount is how much is counted: mostly little, now and then so much that it goes over.
func amount(chance *rand.Rand) uint64 {
	switch chance.Intn(8) {
	case 0:
		return most - uint64(chance.Intn(5))
	case 1:
		return 1 << 63
	case 2:
		return 0
	}
	return uint64(chance.Intn(100))
}

// P6.1 to P6.3: all ways to ask a small window a few times.
func TestAllShortWays(t *testing.T) {
	asks := []func(pair){
		func(p pair) { p.add(0, Success, 1) },
		func(p pair) { p.add(3, Failure, 2) },
		func(p pair) { p.add(p.m.time+2, Success, 4) },
		func(p pair) { p.add(p.m.time+6, Kinds, 8) },
		func(p pair) { p.counts(2) },
		func(p pair) { p.counts(p.m.time + 2) },
		func(p pair) { p.counts(p.m.time + 5) },
		func(p pair) { p.reset() },
	}
	const asked = 5
	ways := 1
	for range asked {
		ways *= len(asks)
	}
	for buckets := 1; buckets <= 3; buckets++ {
		for way := range ways {
			p := newPair(t, buckets, 2)
			for range asked {
				asks[way%len(asks)](p)
				way /= len(asks)
			}
		}
	}
}

// moment is a time, mostly a little behind the model's, now and then far behind it, or below it.
func (p pair) moment(chance *rand.Rand) uint64 {
	some := uint64(chance.Intn(3)) * p.m.width * p.m.buckets / 2
	switch chance.Intn(20) {
	case 0:
		return p.m.time - min(p.m.time, some)
	case 1:
		return p.m.time / 2
	case 2:
		return together(p.m.time, some*uint64(chance.Intn(1000)))
	case 3:
		return together(p.m.time, chance.Uint64()>>chance.Intn(60))
	}
	return together(p.m.time, uint64(chance.Int63n(int64(p.m.width)))/uint64(1+chance.Intn(3)))
}

// P6.1 to P6.3, P2 and P6: whatever is asked of a window of whatever size, it is as the chapter's words have it.
func TestAsTheModel(t *testing.T) {
	for seed := range int64(400) {
		chance := rand.New(rand.NewSource(seed))
		p := newPair(t, 1+chance.Intn(api.MaxBuckets), widths()[chance.Intn(len(widths()))])
		for range 100 {
			switch chance.Intn(12) {
			case 0:
				p.reset()
			case 1:
				kinds := wrongKinds()
				p.add(p.moment(chance), kinds[chance.Intn(len(kinds))], amount(chance))
			case 2, 3, 4:
				p.counts(p.moment(chance))
			default:
				p.add(p.moment(chance), chance.Intn(Kinds), amount(chance))
			}
		}
	}
}

// R3: what is told is the caller's own.
func TestToldIsTheCallersOwn(t *testing.T) {
	w := made(t, 2, 10)
	count(t, w, 5, Success, 1)
	c := w.Counts(5)
	c[Success], c[Short] = 7, 9
	expect(t, w, 5, told{1})
	count(t, w, 5, Success, 1)
	if c != (told{7, 0, 0, 0, 9}) {
		t.Errorf("what was told is %v", c)
	}
}

// R4: a window plays no part at another one.
func TestWindowsAreApart(t *testing.T) {
	a, b := made(t, 2, 10), made(t, 2, 10)
	count(t, a, 5, Success, 1)
	count(t, b, 5, Failure, 2)
	expect(t, a, 100, told{})
	expect(t, b, 15, told{0, 2})
	count(t, a, 100, Short, 1)
	b.Reset()
	expect(t, a, 100, told{Short: 1})
	expect(t, b, 15, told{})
}
