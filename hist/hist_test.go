package hist

import (
	"math"
	"math/rand"
	"testing"

	"porpoise/api"
)

const most = math.MaxUint64

// told is what All tells.
type told = [Bins]uint64

// event is how long something took, and when it was noted.
type event struct{ at, took uint64 }

// model is the chapter's words, over a list of all that was noted.
type model struct {
	buckets, width, time uint64
	events               []event
}

// tops are the longest times of the bins, each of one bit more than the one ahead of it.
func tops() told {
	var l told
	for bin := 1; bin < Bins; bin++ {
		l[bin] = 2*l[bin-1] + 1
	}
	return l
}

// binOf is the first bin that is long enough.
func binOf(took uint64) int {
	for bin, top := range tops() {
		if took <= top {
			return bin
		}
	}
	return -1
}

// kept are the times that count at a time that isn't below the model's own.
func (m *model) kept(now uint64) []uint64 {
	var l []uint64
	for _, e := range m.events {
		if now/m.width-e.at/m.width < m.buckets {
			l = append(l, e.took)
		}
	}
	return l
}

func (m *model) add(now, took uint64) {
	m.time = max(m.time, now)
	m.events = append(m.events, event{m.time, took})
}

// all is what would be told at a time; the model stays as it is.
func (m *model) all(now uint64) told {
	var c told
	for _, took := range m.kept(max(now, m.time)) {
		c[binOf(took)]++
	}
	return c
}

// percentile is what would be told at a time; the model stays as it is.
func (m *model) percentile(now uint64, percent int) (uint64, bool) {
	l := m.kept(max(now, m.time))
	if len(l) == 0 {
		return 0, false
	}
	percent = max(1, min(100, percent))
	for _, top := range tops() {
		upTo := 0
		for _, took := range l {
			if took <= top {
				upTo++
			}
		}
		if 100*upTo >= percent*len(l) {
			return top, true
		}
	}
	return 0, false
}

// pair is a hist, and what it should be.
type pair struct {
	t *testing.T
	h *Hist
	m *model
}

func newPair(t *testing.T, buckets int, width uint64) pair {
	t.Helper()
	p := pair{t, made(t, buckets, width), &model{buckets: uint64(buckets), width: width}}
	p.look()
	return p
}

// made is a new hist that may be.
func made(t *testing.T, buckets int, width uint64) *Hist {
	t.Helper()
	h := New(buckets, width)
	if h == nil {
		t.Fatalf("New(%d, %d) is nil", buckets, width)
	}
	return h
}

// look holds what would be told, at this time and at those at which buckets pass, against the model; both stay as they are.
func (p pair) look() {
	p.t.Helper()
	begin := p.m.time / p.m.width * p.m.width
	for passed := range p.m.buckets + 2 {
		for _, now := range []uint64{begin + passed*p.m.width, begin + passed*p.m.width + p.m.width - 1} {
			if now < begin { // no time is that great
				continue
			}
			twin := *p.h
			if got, want := twin.All(now), p.m.all(now); got != want {
				p.t.Fatalf("%d buckets of %d, the time is %d: All(%d) = %v, want %v", p.m.buckets, p.m.width, p.m.time, now, got, want)
			}
			p.lookAt(now)
		}
	}
}

// lookAt holds what would be told of some percents against the model.
func (p pair) lookAt(now uint64) {
	p.t.Helper()
	for _, percent := range []int{0, 1, 50, 99, 100} {
		twin := *p.h
		got, ok := twin.Percentile(now, percent)
		if want, there := p.m.percentile(now, percent); got != want || ok != there {
			p.t.Fatalf("%d buckets of %d, the time is %d: Percentile(%d, %d) = %d, %t, want %d, %t", p.m.buckets, p.m.width, p.m.time, now, percent, got, ok, want, there)
		}
	}
}

func (p pair) add(now, took uint64) {
	p.t.Helper()
	p.h.Add(now, took)
	p.m.add(now, took)
	p.look()
}

func (p pair) all(now uint64) {
	p.t.Helper()
	if got, want := p.h.All(now), p.m.all(now); got != want {
		p.t.Fatalf("%d buckets of %d, the time is %d: All(%d) = %v, want %v", p.m.buckets, p.m.width, p.m.time, now, got, want)
	}
	p.m.time = max(p.m.time, now)
	p.look()
}

func (p pair) percentile(now uint64, percent int) {
	p.t.Helper()
	want, there := p.m.percentile(now, percent)
	if got, ok := p.h.Percentile(now, percent); got != want || ok != there {
		p.t.Fatalf("%d buckets of %d, the time is %d: Percentile(%d, %d) = %d, %t, want %d, %t", p.m.buckets, p.m.width, p.m.time, now, percent, got, ok, want, there)
	}
	p.m.time = max(p.m.time, now)
	p.look()
}

// expect holds the bins that a hist tells at a time against what they should be.
func expect(t *testing.T, h *Hist, now uint64, want told) {
	t.Helper()
	if got := h.All(now); got != want {
		t.Errorf("All(%d) = %v, want %v", now, got, want)
	}
}

// expectTop holds a percentile that there is against what it should be.
func expectTop(t *testing.T, h *Hist, now uint64, percent int, want uint64) {
	t.Helper()
	if got, ok := h.Percentile(now, percent); got != want || !ok {
		t.Errorf("Percentile(%d, %d) = %d, %t, want %d, true", now, percent, got, ok, want)
	}
}

// expectNone wants that there is no percentile, whichever is asked for.
func expectNone(t *testing.T, h *Hist, now uint64) {
	t.Helper()
	for _, percent := range percents() {
		if got, ok := h.Percentile(now, percent); got != 0 || ok {
			t.Errorf("Percentile(%d, %d) = %d, %t, want 0, false", now, percent, got, ok)
		}
	}
}

// percents are all that may be, and some that are as the first or as the last one.
func percents() []int {
	l := append(lowPercents(), highPercents()...)
	for percent := 1; percent <= 100; percent++ {
		l = append(l, percent)
	}
	return l
}

func lowPercents() []int {
	return []int{math.MinInt, math.MinInt + 1, math.MinInt32, -256, -100, -99, -1, 0}
}

func highPercents() []int {
	return []int{101, 102, 200, 256, 257, 1 << 32, 1<<32 + 1, math.MaxInt - 1, math.MaxInt}
}

// widths are such as may be: the least, the greatest, and some between, of which some don't divide the greatest time.
func widths() []uint64 {
	return []uint64{1, 2, 3, 7, 10, 64, 1000, 1 << 32, 1<<32 + 1, api.MaxTicks - 1, api.MaxTicks}
}

func wrongWidths() []uint64 {
	return []uint64{0, api.MaxTicks + 1, api.MaxTicks + 2, 1 << 41, 1<<63 - 1, 1 << 63, 1<<63 + 1, most - 1, most}
}

func wrongBuckets() []int {
	return []int{math.MinInt, math.MinInt + 1, math.MinInt32, -8, -1, 0, api.MaxBuckets + 1, api.MaxBuckets + 2, 256, 257, 1 << 32, 1<<32 + 3, math.MaxInt - 1, math.MaxInt}
}

// times are some at which a division, a sum, or a shift may go wrong.
func times() []uint64 {
	return []uint64{0, 1, 2, 9, 10, 11, 1<<32 - 1, 1 << 32, 1<<32 + 1, api.MaxTicks - 1, api.MaxTicks, api.MaxTicks + 1, 1<<63 - 1, 1 << 63, most - 1, most}
}

// each calls for all sizes of hists that may be.
func each(do func(buckets int, width uint64)) {
	for buckets := 1; buckets <= api.MaxBuckets; buckets++ {
		for _, width := range widths() {
			do(buckets, width)
		}
	}
}

// The chapter's constant, which has no type of its own.
func TestBins(t *testing.T) {
	var small uint8 = Bins // does not compile, if Bins has a type
	if small != 65 {
		t.Errorf("there are %d bins", small)
	}
}

// P7.1: Bin, of the edges of all bins.
func TestBin(t *testing.T) {
	for took, want := range map[uint64]int{0: 0, 1: 1, 2: 2, 3: 2, 4: 3, 7: 3, 8: 4, 100: 7, 127: 7, 128: 8, 1<<63 - 1: 63, 1 << 63: 64, most - 1: 64, most: 64} {
		if got := Bin(took); got != want {
			t.Errorf("Bin(%d) = %d, want %d", took, got, want)
		}
	}
	for bin := 1; bin < Bins; bin++ {
		first := uint64(1) << (bin - 1)
		for _, took := range []uint64{first, first + (first-1)/2, first + (first - 1)} {
			if got := Bin(took); got != bin {
				t.Errorf("Bin(%d) = %d, want %d", took, got, bin)
			}
		}
	}
}

// P7.1: Top, of all bins.
func TestTop(t *testing.T) {
	for bin, want := range map[int]uint64{0: 0, 1: 1, 2: 3, 3: 7, 4: 15, 7: 127, 32: 1<<32 - 1, 63: 1<<63 - 1, 64: most} {
		if got := Top(bin); got != want {
			t.Errorf("Top(%d) = %d, want %d", bin, got, want)
		}
	}
	for bin, want := range tops() {
		if got := Top(bin); got != want {
			t.Errorf("Top(%d) = %d, want %d", bin, got, want)
		}
	}
}

// P7.1: Top, of bins that there aren't: below, and above.
func TestTopOfNoBin(t *testing.T) {
	for _, bin := range []int{math.MinInt, math.MinInt + 1, math.MinInt32, -65, -64, -63, -2, -1} {
		if got := Top(bin); got != 0 {
			t.Errorf("Top(%d) = %d, want 0", bin, got)
		}
	}
	for _, bin := range []int{65, 66, 127, 128, 129, 256, 1 << 32, 1<<32 + 1, math.MaxInt - 1, math.MaxInt} {
		if got := Top(bin); got != most {
			t.Errorf("Top(%d) = %d, want %d", bin, got, uint64(most))
		}
	}
}

// P7.1: the greatest time of a bin is in it, and the next one in the next bin.
func TestTopIsTheLastOfItsBin(t *testing.T) {
	for bin := range Bins {
		top := Top(bin)
		if Bin(top) != bin {
			t.Errorf("Bin(Top(%d)) = %d", bin, Bin(top))
		}
		if bin < 64 && Bin(top+1) != bin+1 {
			t.Errorf("Bin(Top(%d) + 1) = %d", bin, Bin(top+1))
		}
	}
}

// P7.1: New, of all sizes that may be: nothing is in it.
func TestNew(t *testing.T) {
	each(func(buckets int, width uint64) {
		for _, now := range times() {
			expect(t, made(t, buckets, width), now, told{})
			expectNone(t, made(t, buckets, width), now)
		}
	})
}

// P7.1: New, of sizes that may not be: buckets, a width, and both.
func TestNewRefuses(t *testing.T) {
	for _, buckets := range wrongBuckets() {
		for _, width := range append(widths(), wrongWidths()...) {
			if New(buckets, width) != nil {
				t.Errorf("New(%d, %d) is a hist", buckets, width)
			}
		}
	}
	for buckets := 1; buckets <= api.MaxBuckets; buckets++ {
		for _, width := range wrongWidths() {
			if New(buckets, width) != nil {
				t.Errorf("New(%d, %d) is a hist", buckets, width)
			}
		}
	}
}

// P7.1: the limits are chapter 6's numbers.
func TestLimits(t *testing.T) {
	if New(8, 1<<40) == nil || New(9, 1<<40) != nil || New(8, 1<<40+1) != nil {
		t.Error("other hists may be than those of 8 buckets of 2^40 ticks")
	}
}

// P7.1: Add, of times of all bins: one more in that bin, and in no other one.
func TestAdd(t *testing.T) {
	each(func(buckets int, width uint64) {
		h := made(t, buckets, width)
		var want told
		for bin, top := range tops() {
			for _, took := range []uint64{top, top/2 + top%2} { // the longest one of the bin, and the shortest
				h.Add(5, took)
				want[bin]++
				expect(t, h, 5, want)
			}
		}
	})
}

// P7.1: the times 0, 1 and the greatest one, and the bins 0, 1 and 64.
func TestAddAtTheEdges(t *testing.T) {
	h := made(t, 2, 10)
	h.Add(0, 0)
	expect(t, h, 0, told{0: 1})
	h.Add(0, 1)
	h.Add(0, 1)
	expect(t, h, 0, told{0: 1, 1: 2})
	h.Add(0, most)
	h.Add(0, 1<<63)
	h.Add(0, 1<<63-1)
	expect(t, h, 0, told{0: 1, 1: 2, 63: 1, 64: 2})
}

// P7.1: a bin of a bucket stays at the greatest number; the others of the bucket go on.
func TestAddAtTheGreatestCount(t *testing.T) {
	h := made(t, 2, 10)
	h.counts[0][3] = most - 1 // so many can't be added one by one
	h.Add(5, 4)
	expect(t, h, 5, told{3: most})
	h.Add(5, 7)
	h.Add(5, 8)
	expect(t, h, 5, told{3: most, 4: 1})
	h.Add(15, 5)
	expect(t, h, 20, told{3: 1})
}

// P7.2: a bin of many buckets together is the greatest number, if it goes over; and no more, when enough have passed.
func TestAllThatGoesOver(t *testing.T) {
	h := made(t, 3, 10)
	h.Add(25, 0)
	h.counts[0][9], h.counts[1][9], h.counts[2][9] = 1<<63, 1<<63, 5
	h.counts[0][64], h.counts[1][64] = most-3, 3
	expect(t, h, 29, told{0: 1, 9: most, 64: most})
	expect(t, h, 30, told{0: 1, 9: 1<<63 + 5, 64: 3})
	expect(t, h, 40, told{0: 1, 9: 5})
	expect(t, h, 50, told{})
}

// P7.2: what is in a hist is told up to the last tick of the last bucket, and at the next one no more, wherever in its bucket it was added.
func TestToldUntilPassed(t *testing.T) {
	each(func(buckets int, width uint64) {
		for _, bucket := range []uint64{0, 1, 2, 7, 8, 9, 1000} {
			begin := bucket * width
			next := begin + uint64(buckets)*width
			for _, when := range []uint64{begin, begin + width/2, begin + width - 1} {
				h := made(t, buckets, width)
				h.Add(when, 6)
				expect(t, h, when, told{3: 1})
				expect(t, h, begin+width-1, told{3: 1})
				expect(t, h, next-1, told{3: 1})
				expectTop(t, h, next-1, 100, 7)
				expect(t, h, next, told{})
				expectNone(t, h, next)
				expect(t, h, next+uint64(buckets)*width, told{})
			}
		}
	})
}

// P7.2: the same of Percentile, if nothing but that is asked.
func TestPercentileUntilPassed(t *testing.T) {
	each(func(buckets int, width uint64) {
		next := uint64(buckets) * width
		h := made(t, buckets, width)
		h.Add(0, 6)
		expectTop(t, h, next-1, 1, 7)
		expectNone(t, h, next)
	})
}

// P7.2: however time passes, asked at each bucket, at some, or at none between, the same is told.
func TestToldHoweverAsked(t *testing.T) {
	for buckets := 1; buckets <= api.MaxBuckets; buckets++ {
		for step := uint64(1); step <= 12; step++ {
			p, q := newPair(t, buckets, 10), newPair(t, buckets, 10)
			for _, one := range []pair{p, q} {
				one.add(3, 5)
				one.add(14, 70)
			}
			for now := uint64(14); now < 130; now += 10 * step {
				p.all(now)
				q.percentile(now, 50)
			}
		}
	}
}

// P7.2: each bucket leaves by itself, as it came.
func TestBucketsLeaveOneByOne(t *testing.T) {
	for buckets := 1; buckets <= api.MaxBuckets; buckets++ {
		h := made(t, buckets, 10)
		for bucket := range 40 { // the bucket k has the bin k
			h.Add(uint64(10*bucket+bucket%10), Top(bucket))
			var want told
			for back := range min(buckets, bucket+1) {
				want[bucket-back] = 1
			}
			expect(t, h, uint64(10*bucket+9), want)
		}
	}
}

// P7.2: of one bucket just the bucket of now is told.
func TestOneBucket(t *testing.T) {
	h := made(t, 1, 10)
	h.Add(0, 1)
	h.Add(9, 2)
	expect(t, h, 9, told{1: 1, 2: 1})
	expectTop(t, h, 9, 100, 3)
	expect(t, h, 10, told{})
	h.Add(10, 4)
	expect(t, h, 19, told{3: 1})
	h.Add(20, 8)
	expect(t, h, 20, told{4: 1})
	expectTop(t, h, 29, 1, 15)
	expectNone(t, h, 30)
}

// P7.2: of the width 1 each tick is a bucket.
func TestWidthOfOne(t *testing.T) {
	h := made(t, 3, 1)
	for now := range uint64(4) {
		h.Add(now, now)
	}
	expect(t, h, 3, told{1: 1, 2: 2})
	expect(t, h, 4, told{2: 2})
	expect(t, h, 5, told{2: 1})
	expectTop(t, h, 5, 50, 3)
	expect(t, h, 6, told{})
}

// P7.2: the greatest hist: 8 buckets of 2^40 ticks.
func TestGreatestHist(t *testing.T) {
	h := made(t, 8, 1<<40)
	h.Add(0, 1)
	h.Add(1<<40-1, 2)
	h.Add(1<<40, 4)
	expect(t, h, 1<<43-1, told{1: 1, 2: 1, 3: 1})
	expect(t, h, 1<<43, told{3: 1})
	expect(t, h, 1<<43+1<<40-1, told{3: 1})
	expectTop(t, h, 1<<43+1<<40-1, 1, 7)
	expect(t, h, 1<<43+1<<40, told{})
	expectNone(t, h, 1<<43+1<<40)
}

// P7.2: times that are far apart: all buckets have passed, once, many times, or so often that a place of the array is the same again.
func TestTimesFarApart(t *testing.T) {
	each(func(buckets int, width uint64) {
		if width > 1<<32 {
			return // such times would be too great
		}
		all := uint64(buckets) * width
		for _, far := range []uint64{all, all + width, 2*all - width, 2 * all, 3 * all, 1000 * all, 1000*all + width, 1 << 62} {
			p := newPair(t, buckets, width)
			for bucket := range uint64(buckets) {
				p.add(bucket*width, bucket+1)
			}
			p.add(all-1+far, 9)
			expect(t, p.h, all-1+far, told{4: 1})
			p.percentile(all-1+2*far, 100)
			p.add(all-1+2*far, 4)
			p.all(all - 1 + 2*far)
		}
	})
}

// P7.2: the greatest time: nothing wraps round, and its bucket is the last one for ever.
func TestGreatestTime(t *testing.T) {
	each(func(buckets int, width uint64) {
		h := made(t, buckets, width)
		h.Add(0, 1)
		h.Add(most, 2)
		expect(t, h, most, told{2: 1})
		h.Add(most, 4)
		h.Add(0, 8)
		for _, now := range times() {
			expect(t, h, now, told{2: 1, 3: 1, 4: 1})
			expectTop(t, h, now, 34, 7)
		}
	})
}

// P7.2: the last buckets ahead of the greatest time, the last of which may be a short one.
func TestAheadOfGreatestTime(t *testing.T) {
	each(func(buckets int, width uint64) {
		for back := range uint64(buckets) + 2 {
			p := newPair(t, buckets, width)
			p.add(most-back*width, 1)
			p.add(most-back*width/2, most)
			p.all(most - 1)
			p.percentile(most, 50)
		}
	})
}

// Time doesn't go back: below an Add a time is as that.
func TestTimeBelowAnAdd(t *testing.T) {
	h := made(t, 3, 10)
	h.Add(5, 1)
	h.Add(25, 2)
	h.Add(5, 4) // as at 25
	h.Add(0, 8) // and so is this
	expect(t, h, 0, told{1: 1, 2: 1, 3: 1, 4: 1})
	expect(t, h, 30, told{2: 1, 3: 1, 4: 1})
	expect(t, h, 49, told{2: 1, 3: 1, 4: 1})
	expect(t, h, 50, told{})
}

// Time doesn't go back: below an All or a Percentile, also of a hist with nothing in it, a time is as that.
func TestTimeBelowWhatWasAsked(t *testing.T) {
	for _, ask := range []func(h *Hist, now uint64){
		func(h *Hist, now uint64) { h.All(now) },
		func(h *Hist, now uint64) { h.Percentile(now, 50) },
		func(h *Hist, now uint64) { h.Percentile(now, -1) },
		func(h *Hist, now uint64) { h.Percentile(now, 101) },
	} {
		h := made(t, 3, 10)
		ask(h, 25)
		h.Add(5, 6) // as at 25
		expect(t, h, 0, told{3: 1})
		expectTop(t, h, 49, 50, 7)
		ask(h, 50)
		expect(t, h, 49, told{}) // what has passed does not come back
		expectNone(t, h, 49)
		h.Add(49, 9) // as at 50
		expect(t, h, 79, told{4: 1})
		expect(t, h, 80, told{})
	}
}

// Time doesn't go back: within one bucket it plays no part.
func TestTimeBelowInOneBucket(t *testing.T) {
	h := made(t, 2, 10)
	h.Add(19, 1)
	h.Add(10, 1)
	expect(t, h, 15, told{1: 2})
	expect(t, h, 29, told{1: 2})
	expect(t, h, 30, told{})
}

// P7.2: the chapter's example.
func TestExample(t *testing.T) {
	h := made(t, 2, 10)
	for _, took := range []uint64{3, 3, 100} {
		h.Add(5, took)
	}
	expectTop(t, h, 5, 50, 3)
	expectTop(t, h, 5, 100, 127)
}

// P7.2: percents just at, and just above, what a bin holds; the first one, and the last.
func TestPercentileAtTheEdges(t *testing.T) {
	h := made(t, 4, 10)
	for _, some := range []struct {
		often int
		took  uint64
	}{{1, 0}, {24, 1}, {25, 10}, {49, 1000}, {1, most}} { // 100 in all: up to 1, 25, 50, 99 and 100 of them
		for i := range some.often {
			h.Add(uint64(i%40), some.took)
		}
	}
	for _, one := range []struct {
		percent int
		want    uint64
	}{{1, 0}, {2, 1}, {25, 1}, {26, 15}, {50, 15}, {51, 1023}, {99, 1023}, {100, most}} {
		expectTop(t, h, 39, one.percent, one.want)
	}
}

// P7.2: percents of a count that isn't told in hundreds: a share that is just too small isn't rounded up.
func TestPercentileIsNotRounded(t *testing.T) {
	thirds := made(t, 1, 10)
	for _, took := range []uint64{1, 2, 4} {
		thirds.Add(0, took)
	}
	for _, one := range []struct {
		percent int
		want    uint64
	}{{33, 1}, {34, 3}, {66, 3}, {67, 7}, {100, 7}} {
		expectTop(t, thirds, 0, one.percent, one.want)
	}
	few := made(t, 1, 10)
	few.Add(0, 1)
	for range 99 {
		few.Add(0, 2)
	}
	expectTop(t, few, 0, 1, 1) // 1 of 100 is a hundredth
	few.Add(0, 2)
	expectTop(t, few, 0, 1, 3) // 1 of 101 isn't
}

// P7.2: a percent below 1 is as 1, and not as one that is none at all; one above 100 is as 100.
func TestPercentsThatMayNotBe(t *testing.T) {
	h := made(t, 1, 10)
	h.Add(0, 1)
	for range 199 {
		h.Add(0, 2)
	}
	h.Add(0, most)
	for _, percent := range append(lowPercents(), 1) {
		expectTop(t, h, 0, percent, 3)
	}
	for _, percent := range append(highPercents(), 100) {
		expectTop(t, h, 0, percent, most)
	}
}

// P7.2: of one time alone, in each bin, each percent is the bin's.
func TestPercentileOfOne(t *testing.T) {
	for bin, top := range tops() {
		h := made(t, 2, 10)
		h.Add(3, top)
		for _, percent := range percents() {
			expectTop(t, h, 3, percent, top)
		}
		if all := h.All(3); all[bin] != 1 {
			t.Errorf("%d is not in the bin %d: %v", top, bin, all)
		}
	}
}

// P7.2: times of 0 alone are there, though their time is 0.
func TestPercentileOfZero(t *testing.T) {
	h := made(t, 2, 10)
	expectNone(t, h, 3)
	h.Add(3, 0)
	expectTop(t, h, 3, 1, 0)
	expectTop(t, h, 19, 100, 0)
	expectNone(t, h, 20)
}

// P7.2: of buckets that pass the percentiles go with them.
func TestPercentileOfWhatIsLeft(t *testing.T) {
	h := made(t, 2, 10)
	h.Add(0, 1000)
	h.Add(10, 1)
	h.Add(10, 2)
	expectTop(t, h, 19, 100, 1023)
	expectTop(t, h, 19, 50, 3)
	expectTop(t, h, 20, 100, 3)
	expectTop(t, h, 20, 50, 1)
	expectNone(t, h, 30)
}

// P7.2: counts so great that a hundred times them, or all together, go over.
func TestPercentileOfGreatCounts(t *testing.T) {
	h := made(t, 1, 10)
	h.counts[0][1], h.counts[0][2] = 1<<63, 1<<63-1 // all together are just the greatest number
	expectTop(t, h, 0, 1, 1)
	expectTop(t, h, 0, 50, 1)
	expectTop(t, h, 0, 51, 3)
	expectTop(t, h, 0, 100, 3)
	h.counts[0][1], h.counts[0][2] = 1<<63-1, 1<<63
	expectTop(t, h, 0, 49, 1)
	expectTop(t, h, 0, 50, 3)
	h.counts[0][1], h.counts[0][2], h.counts[0][3] = most-1, 1, most // more than the greatest number is as that
	expectTop(t, h, 0, 99, 1)
	expectTop(t, h, 0, 100, 3)
	h.counts[0][1], h.counts[0][2] = most-5, 10
	expectTop(t, h, 0, 100, 3)
	h.counts[0][1] = most
	expectTop(t, h, 0, 100, 1)
}

// P7.2: a Hist that is nil.
func TestNil(t *testing.T) {
	for _, h := range []*Hist{nil, New(0, 10), New(9, 10), New(2, 0), New(2, api.MaxTicks+1)} {
		for _, now := range times() {
			for _, took := range times() {
				h.Add(now, took)
			}
			expect(t, h, now, told{})
			expectNone(t, h, now)
		}
	}
}

// someTimes are so many times, of all bins.
func someTimes(chance *rand.Rand, n int) []uint64 {
	l := make([]uint64, n)
	for i := range l {
		l[i] = chance.Uint64() >> chance.Intn(65)
	}
	return l
}

// P7.3: a higher percent is no lower time.
func TestHigherPercentIsNoLowerTime(t *testing.T) {
	for seed := range int64(300) {
		chance := rand.New(rand.NewSource(seed))
		h := made(t, 3, 10)
		for _, took := range someTimes(chance, 1+chance.Intn(120)) {
			h.Add(uint64(chance.Intn(30)), took)
		}
		var below uint64
		for percent := -1; percent <= 102; percent++ {
			got, ok := h.Percentile(29, percent)
			if got < below || !ok {
				t.Fatalf("seed %d: Percentile(29, %d) = %d, %t, and of one less %d", seed, percent, got, ok, below)
			}
			below = got
		}
	}
}

// P7.3: all took at most the hundredth's, and the longest one more than half of it (if that is 0, the longest one is 0 as well: the half of nothing).
func TestHundredth(t *testing.T) {
	for seed := range int64(1000) {
		chance := rand.New(rand.NewSource(seed))
		h := made(t, 3, 10)
		least := chance.Intn(65)
		var longest uint64
		for _, took := range someTimes(chance, 1+chance.Intn(20)) {
			took >>= least
			h.Add(uint64(chance.Intn(30)), took)
			longest = max(longest, took)
		}
		top, ok := h.Percentile(29, 100)
		if !ok || longest > top || longest <= top/2 && top > 0 {
			t.Fatalf("seed %d: the longest one took %d, and Percentile(29, 100) = %d, %t", seed, longest, top, ok)
		}
	}
}

// P7.3: the same at the edges of all bins, of which the shortest time is just more than half of the longest.
func TestHundredthAtTheEdges(t *testing.T) {
	for bin, top := range tops() {
		for _, longest := range []uint64{top, top/2 + top%2} {
			h := made(t, 1, 1)
			h.Add(0, 0)
			h.Add(0, longest)
			expectTop(t, h, 0, 100, top)
			if longest > top || top > 0 && longest <= top/2 {
				t.Errorf("bin %d: %d, of %d", bin, longest, top)
			}
		}
	}
}

// P7.1 to P7.3: all ways to ask a small hist a few times.
func TestAllShortWays(t *testing.T) {
	asks := []func(pair){
		func(p pair) { p.add(0, 0) },
		func(p pair) { p.add(3, 1) },
		func(p pair) { p.add(p.m.time+2, most) },
		func(p pair) { p.all(2) },
		func(p pair) { p.all(p.m.time + 2) },
		func(p pair) { p.percentile(2, 50) },
		func(p pair) { p.percentile(p.m.time+5, 51) },
	}
	const asked = 4
	ways := 1
	for range asked {
		ways *= len(asks)
	}
	for buckets := 1; buckets <= 3; buckets++ {
		for way := range ways {
			p := newPair(t, buckets, 2)
			for range asked {
				asks[way%len(asks)](p)
				way /= len(asks)
			}
		}
	}
}

// later is a time and some ticks, or the greatest one, if that is more.
func later(time, ticks uint64) uint64 {
	if time+ticks < time {
		return most
	}
	return time + ticks
}

// moment is a time, mostly a little behind the model's, now and then far behind it, or below it.
func (p pair) moment(chance *rand.Rand) uint64 {
	some := uint64(chance.Intn(3)) * p.m.width * p.m.buckets / 2
	switch chance.Intn(20) {
	case 0:
		return p.m.time - min(p.m.time, some)
	case 1:
		return p.m.time / 2
	case 2:
		return later(p.m.time, some*uint64(chance.Intn(1000)))
	case 3:
		return later(p.m.time, chance.Uint64()>>chance.Intn(60))
	}
	return later(p.m.time, uint64(chance.Int63n(int64(p.m.width)))/uint64(1+chance.Intn(3)))
}

// P7.1 to P7.3: whatever is asked of a hist of whatever size, it is as the chapter's words have it.
func TestAsTheModel(t *testing.T) {
	asked := percents()
	for seed := range int64(100) {
		chance := rand.New(rand.NewSource(seed))
		p := newPair(t, 1+chance.Intn(api.MaxBuckets), widths()[chance.Intn(len(widths()))])
		for range 60 {
			switch chance.Intn(8) {
			case 0:
				p.all(p.moment(chance))
			case 1, 2:
				p.percentile(p.moment(chance), asked[chance.Intn(len(asked))])
			default:
				p.add(p.moment(chance), chance.Uint64()>>chance.Intn(65))
			}
		}
	}
}

// R3: what is told is the caller's own.
func TestToldIsTheCallersOwn(t *testing.T) {
	h := made(t, 2, 10)
	h.Add(5, 1)
	c := h.All(5)
	c[1], c[64] = 7, 9
	expect(t, h, 5, told{1: 1})
	h.Add(5, 1)
	if c != (told{1: 7, 64: 9}) {
		t.Errorf("what was told is %v", c)
	}
}

// R4: a hist plays no part at another one.
func TestHistsAreApart(t *testing.T) {
	a, b := made(t, 2, 10), made(t, 2, 10)
	a.Add(5, 1)
	b.Add(5, 2)
	expect(t, a, 100, told{})
	expect(t, b, 15, told{2: 1})
	a.Add(100, 4)
	expect(t, a, 100, told{3: 1})
	expectTop(t, b, 15, 50, 3)
}
