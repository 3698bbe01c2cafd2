package health

import (
	"math"
	"math/big"
	"math/rand"
	"slices"
	"testing"

	"porpoise/api"
	"porpoise/window"
)

const most = math.MaxUint64

// told are counts by kind, as they are handed in and out.
type told = [window.Kinds]uint64

// ends are numbers at their worst, as a kind, a cause, a Volume, a Percent and a number of buckets.
func ends() []int {
	return []int{
		math.MinInt, math.MinInt + 1, math.MinInt32, -256, -101, -100, -2, -1, 0, 1, 2, 3, 4, 5, 6, 7, 8, 9, 49, 50, 51,
		99, 100, 101, 255, 256, 257, 1000, 1001, math.MaxInt32, 1 << 32, 1<<32 + 1, 1<<32 + 3, math.MaxInt - 1, math.MaxInt,
	}
}

// times are numbers at their worst, as a time, a width and a count.
func times() []uint64 {
	return []uint64{
		0, 1, 2, 9, 10, 11, 1<<32 - 1, 1 << 32, 1<<40 - 1, 1 << 40, 1<<40 + 1, 1<<63 - 1, 1 << 63, most - 1, most,
	}
}

// capped is a number without an end, or the greatest one, if it is more.
func capped(n *big.Int) uint64 {
	if n.IsUint64() {
		return n.Uint64()
	}
	return most
}

func endless(n uint64) *big.Int { return new(big.Int).SetUint64(n) }

func together(l ...uint64) uint64 {
	sum := new(big.Int)
	for _, n := range l {
		sum.Add(sum, endless(n))
	}
	return capped(sum)
}

// modelErrors, modelVolume and modelOpens are P16.1's words, in numbers without an end, kinds by their numbers.
func modelErrors(c told) uint64 { return together(c[1], c[2], c[3]) }

func modelVolume(c told) uint64 { return together(c[0], c[1], c[2], c[3]) }

func modelOpens(c told, f api.Conf) bool {
	volume := endless(modelVolume(c))
	if volume.Cmp(big.NewInt(int64(max(f.Volume, 1)))) < 0 {
		return false
	}
	have := new(big.Int).Mul(endless(modelErrors(c)), big.NewInt(100))
	want := new(big.Int).Mul(volume, big.NewInt(int64(max(f.Percent, 0))))
	return have.Cmp(want) >= 0
}

// sums holds Errors and Volume against what they should be.
func sums(t *testing.T, c told, errors, volume uint64) {
	t.Helper()
	if got := Errors(c); got != errors {
		t.Errorf("Errors(%v) = %d, want %d", c, got, errors)
	}
	if got := Volume(c); got != volume {
		t.Errorf("Volume(%v) = %d, want %d", c, got, volume)
	}
}

func opens(t *testing.T, c told, volume, percent int, want bool) {
	t.Helper()
	if got := Opens(c, api.Conf{Volume: volume, Percent: percent}); got != want {
		t.Errorf("Opens(%v) of the Volume %d and the Percent %d is %t, want %t", c, volume, percent, got, want)
	}
}

// counted are so many calls, so many of which failed in one way or another, and so many that were short.
func counted(volume, errors, short uint64) told {
	timeouts, rejected := errors/3, errors/2
	return told{volume - errors, errors - timeouts - rejected, timeouts, rejected, short}
}

// The chapter's example.
func TestTheExample(t *testing.T) {
	c := told{window.Success: 2, window.Failure: 2}
	opens(t, c, 4, 50, true)
	opens(t, c, 4, 51, false)
	opens(t, c, 5, 50, false)
}

// P16.1: each kind alone, and all together.
func TestErrorsAndVolume(t *testing.T) {
	sums(t, told{}, 0, 0)
	for _, n := range times() {
		sums(t, told{window.Success: n}, 0, n)
		sums(t, told{window.Failure: n}, n, n)
		sums(t, told{window.Timeout: n}, n, n)
		sums(t, told{window.Rejected: n}, n, n)
		sums(t, told{window.Short: n}, 0, 0)
	}
	sums(t, told{1, 10, 100, 1000, 10000}, 1110, 1111)
	sums(t, told{3, 1, 1, 1, 50}, 3, 6)
	sums(t, told{1000, 1, 0, 0, 0}, 1, 1001)
	sums(t, told{0, 1, 0, 2, 0}, 3, 3)
	sums(t, told{7, 0, 5, 0, 1}, 5, 12)
}

// P16.1: what goes over the greatest number is that one.
func TestErrorsAndVolumeDontGoOver(t *testing.T) {
	sums(t, told{0, most, 1, 0, 0}, most, most)
	sums(t, told{0, 1, most, 0, 0}, most, most)
	sums(t, told{0, 0, 1, most, 0}, most, most)
	sums(t, told{0, most - 1, 0, 1, 0}, most, most)
	sums(t, told{1, most - 1, 0, 0, 0}, most-1, most)
	sums(t, told{2, most - 1, 0, 0, 0}, most-1, most)
	sums(t, told{most, 1, 1, 1, 0}, 3, most)
	sums(t, told{0, 1 << 63, 1 << 63, 0, 0}, most, most)
	sums(t, told{1 << 63, 0, 0, 1 << 63, 0}, 1<<63, most)
	sums(t, told{most, most, most, most, most}, most, most)
}

// P16.1: all counts of some at their worst, and short plays no part.
func TestErrorsAndVolumeAsTheModel(t *testing.T) {
	some := []uint64{0, 1, 2, 50, 1 << 63, most - 1, most}
	for _, a := range some {
		for _, b := range some {
			for _, c := range some {
				for _, d := range some {
					for _, e := range some {
						l := told{a, b, c, d, e}
						sums(t, l, modelErrors(l), modelVolume(l))
					}
				}
			}
		}
	}
}

// P16.1: the volume is just the least one, or one below it; of a Volume that is one.
func TestOpensAtTheVolume(t *testing.T) {
	for volume := 1; volume <= 1000; volume++ {
		for _, c := range []told{
			counted(uint64(volume), uint64(volume), 0),
			counted(uint64(volume), 0, 0),
			counted(uint64(volume), uint64(volume)/2, 1000),
		} {
			opens(t, c, volume, 0, true)
			opens(t, c, volume+1, 0, false)
			opens(t, c, volume-1, 0, true)
		}
	}
	opens(t, told{0, 0, 0, 1000, 0}, 1000, 100, true)
	opens(t, told{0, 0, 0, 999, 0}, 1000, 100, false)
	opens(t, told{window.Timeout: math.MaxInt}, math.MaxInt, 100, true)
	opens(t, told{window.Timeout: math.MaxInt - 1}, math.MaxInt, 100, false)
}

// P16.1: a Volume of 1, of 0 and below 0: one call is enough, and none isn't, whatever was short.
func TestOpensOfAVolumeBelowOne(t *testing.T) {
	for _, volume := range []int{1, 0, -1, -2, -100, math.MinInt32, math.MinInt + 1, math.MinInt} {
		for _, percent := range ends() {
			opens(t, told{}, volume, percent, false)
			for _, short := range times() {
				opens(t, told{window.Short: short}, volume, percent, false)
			}
		}
		for _, kind := range []int{window.Failure, window.Timeout, window.Rejected} {
			var c told
			c[kind] = 1
			opens(t, c, volume, 100, true)
			opens(t, c, volume, 101, false)
		}
		opens(t, told{window.Success: 1}, volume, 0, true)
		opens(t, told{window.Success: 1}, volume, 1, false)
	}
}

// P16.1: the errors are just the percent, or one below it; of each Percent, and volumes of each size.
func TestOpensAtThePercent(t *testing.T) {
	for percent := 0; percent <= 100; percent++ {
		for volume := 1; volume <= 250; volume++ {
			least := (volume*percent + 99) / 100
			for _, short := range []uint64{0, 1, 1000} {
				opens(t, counted(uint64(volume), uint64(least), short), volume, percent, true)
				if least > 0 {
					opens(t, counted(uint64(volume), uint64(least-1), short), volume, percent, false)
				}
			}
		}
	}
}

// P16.1: a Percent of 0, and below it, asks for the volume alone.
func TestOpensOfAPercentOfNone(t *testing.T) {
	for _, percent := range []int{0, -1, -50, -100, math.MinInt} {
		opens(t, told{window.Success: 20}, 20, percent, true)
		opens(t, told{window.Success: 20}, 21, percent, false)
		opens(t, told{window.Success: most}, 20, percent, true)
		opens(t, told{1, 1, 1, 1, 1}, 4, percent, true)
		opens(t, told{1, 1, 1, 1, 1}, 5, percent, false)
	}
}

// P16.1: of a Percent of 100 nothing may succeed; of one above it, nothing opens.
func TestOpensOfAPercentOfAll(t *testing.T) {
	opens(t, told{0, 3, 2, 1, 0}, 6, 100, true)
	opens(t, told{0, 3, 2, 1, 9}, 6, 100, true)
	opens(t, told{1, 300, 200, 100, 0}, 6, 100, false)
	for _, percent := range []int{101, 200, 1 << 32, math.MaxInt} {
		opens(t, told{0, 3, 2, 1, 0}, 6, percent, false)
		opens(t, told{0, most, 0, 0, 0}, 6, percent, false)
		opens(t, told{most, most, most, most, most}, 1, percent, false)
	}
}

// P16.1: where sums go over, Errors and Volume are as they are told.
func TestOpensWhereSumsGoOver(t *testing.T) {
	opens(t, told{most, most, 0, 0, 0}, 1000, 100, true)
	opens(t, told{most, most - 1, 0, 0, 0}, 1000, 100, false)
	opens(t, told{most, most - 1, 0, 0, 0}, 1000, 99, true)
	opens(t, told{most, most - 1, 1, 0, 0}, 1000, 100, true)
	opens(t, told{0, most, most, most, 0}, math.MaxInt, 100, true)
	opens(t, told{1 << 63, 1 << 63, 0, 0, 0}, 1, 50, true)
	opens(t, told{1 << 63, 1<<63 - 1, 0, 0, 0}, 1, 50, false)
	opens(t, told{1 << 63, 1<<63 - 1, 0, 0, most}, 1, 49, true)
}

// P16.1, P1: all numbers as a Volume and a Percent, of counts at their worst and of chance.
func TestOpensAsTheModel(t *testing.T) {
	chance := rand.New(rand.NewSource(16))
	counts := []told{{}, {1}, {0, 1}, {0, 0, 1}, {0, 0, 0, 1}, {0, 0, 0, 0, 1}, {most, most, most, most, most}, {2, 1, 1, 0, 9}}
	for range 200 {
		var c told
		for kind := range c {
			c[kind] = chance.Uint64() >> chance.Intn(64)
		}
		counts = append(counts, c)
	}
	for _, c := range counts {
		for _, volume := range ends() {
			for _, percent := range append(ends(), chance.Intn(101)) {
				opens(t, c, volume, percent, modelOpens(c, api.Conf{Volume: volume, Percent: percent}))
			}
		}
	}
}

// P16.1: no other field of a configuration plays a part.
func TestOpensByVolumeAndPercentAlone(t *testing.T) {
	for _, like := range []api.Conf{
		{Mode: api.Pool, Pool: 8, Queue: 8, FbMax: 4, Chain: 3, Timeout: 9, FbTimeout: 9},
		{Mode: api.Semaphore, Sem: 1, Sleep: 1 << 40, Buckets: 8, Width: 1, Window: 7, Batch: 4},
		{Mode: -1, Pool: -1, Queue: -1, Sem: -1, FbMax: -1, Chain: -1, Buckets: -1, Batch: -1},
		{Force: api.ForceOpen},
		{Force: api.ForceClosed},
	} {
		like.Volume, like.Percent = 6, 50
		for c, want := range map[told]bool{{3, 1, 1, 1, 5}: true, {4, 1, 1, 1, 5}: false, {2, 1, 1, 1, 5}: false, {}: false} {
			if got := Opens(c, like); got != want {
				t.Errorf("Opens(%v, %+v) is %t, want %t", c, like, got, want)
			}
		}
	}
}

// P16.1: as what each cause is counted, and that all other numbers are none.
func TestKind(t *testing.T) {
	for cause, want := range map[int]int{
		api.Error: window.Failure, api.Timeout: window.Timeout, api.Rejected: window.Rejected, api.Short: window.Short,
	} {
		if kind, ok := Kind(cause); kind != want || !ok {
			t.Errorf("Kind(%d) = %d, %t, want %d, true", cause, kind, ok, want)
		}
	}
	for _, cause := range append(ends(), api.NoCause, -api.Error, api.Short+1, 1<<32+api.Timeout, math.MinInt+api.Error) {
		if cause >= 1 && cause <= 4 {
			continue
		}
		if kind, ok := Kind(cause); kind != 0 || ok {
			t.Errorf("Kind(%d) = %d, %t, want 0, false", cause, kind, ok)
		}
	}
}

// modelOf is P16.2's words: the last buckets are gone through one by one, from that of now down to the first of all.
func modelOf(l []Event, now uint64, buckets int, width uint64) told {
	var c told
	if buckets < 1 || width < 1 {
		return c
	}
	for _, e := range l {
		bucket := now / width
		for back := 0; back < buckets; back++ {
			if e.At/width == bucket && slices.Contains([]int{0, 1, 2, 3, 4}, e.Kind) {
				c[e.Kind]++
			}
			if bucket == 0 {
				break
			}
			bucket--
		}
	}
	return c
}

// are holds Of against what it should be, and that what was handed in stays as it was, also behind its length.
func are(t *testing.T, l []Event, now uint64, buckets int, width uint64, want told) {
	t.Helper()
	room := append(slices.Clone(l), Event{77, 77}, Event{78, 3})
	whole := slices.Clone(room)
	if got := Of(room[:len(l)], now, buckets, width); got != want {
		t.Errorf("Of(%v, %d, %d, %d) = %v, want %v", l, now, buckets, width, got, want)
	}
	if !slices.Equal(room, whole) {
		t.Errorf("by Of(.., %d, %d, %d) %v became %v", now, buckets, width, whole, room)
	}
}

// at is an event of each kind at a time, and some that are of none.
func at(time uint64) []Event {
	return []Event{{time, 4}, {time, -1}, {time, 0}, {time, 5}, {time, 2}, {time, 3}, {time, math.MaxInt}, {time, 1}}
}

// P16.2: events in several buckets, of one kind and of many, at the time of the last one and later.
func TestOf(t *testing.T) {
	l := []Event{{5, 0}, {9, 0}, {10, 1}, {15, 0}, {19, 4}, {20, 2}, {25, 3}, {29, 1}}
	are(t, l, 29, 1, 10, told{0, 1, 1, 1, 0})
	are(t, l, 29, 2, 10, told{1, 2, 1, 1, 1})
	are(t, l, 29, 3, 10, told{3, 2, 1, 1, 1})
	are(t, l, 29, 8, 10, told{3, 2, 1, 1, 1})
	are(t, l, 30, 1, 10, told{})
	are(t, l, 30, 2, 10, told{0, 1, 1, 1, 0})
	are(t, l, 30, 3, 10, told{1, 2, 1, 1, 1})
	are(t, l, 39, 3, 10, told{1, 2, 1, 1, 1})
	are(t, l, 40, 3, 10, told{0, 1, 1, 1, 0})
	are(t, l, 50, 3, 10, told{})
	are(t, l, 99, 8, 10, told{0, 1, 1, 1, 0})
	are(t, l, 100, 8, 10, told{})
	one := []Event{{0, 2}, {3, 2}, {4, 2}, {4, 2}, {7, 2}}
	are(t, one, 7, 2, 4, told{0, 0, 5, 0, 0})
	are(t, one, 8, 2, 4, told{0, 0, 3, 0, 0})
	are(t, one, 7, 1, 4, told{0, 0, 3, 0, 0})
}

// P16.2: an event in the bucket of now, also behind now, counts; one after that bucket doesn't.
func TestOfNowAndAfter(t *testing.T) {
	for _, buckets := range []int{1, 2, 8, math.MaxInt} {
		for now := uint64(20); now < 30; now++ {
			are(t, at(20), now, buckets, 10, told{1, 1, 1, 1, 1})
			are(t, at(29), now, buckets, 10, told{1, 1, 1, 1, 1})
			are(t, at(30), now, buckets, 10, told{})
			are(t, at(39), now, buckets, 10, told{})
			are(t, at(1<<63), now, buckets, 10, told{})
			are(t, at(most), now, buckets, 10, told{})
		}
		are(t, at(most), 0, buckets, 1, told{})
		are(t, at(most), 0, buckets, most, told{})
		are(t, at(most-1), 0, buckets, most, told{1, 1, 1, 1, 1})
	}
}

// P16.2: an event in the oldest bucket that counts, and in the one ahead of it; of each number of buckets, and of few that passed.
func TestOfTheOldest(t *testing.T) {
	for _, width := range []uint64{1, 2, 10, api.MaxTicks} {
		for buckets := 1; buckets <= api.MaxBuckets; buckets++ {
			for passed := uint64(buckets); passed < 20; passed++ {
				oldest := (passed - uint64(buckets) + 1) * width
				for _, now := range []uint64{passed * width, passed*width + width - 1} {
					are(t, at(oldest), now, buckets, width, told{1, 1, 1, 1, 1})
					are(t, at(oldest+width-1), now, buckets, width, told{1, 1, 1, 1, 1})
					are(t, at(oldest-1), now, buckets, width, told{})
				}
			}
			for passed := range uint64(buckets) {
				are(t, at(0), passed*width, buckets, width, told{1, 1, 1, 1, 1})
			}
		}
	}
}

// P16.2: zeros, if there are no buckets, or they have no width.
func TestOfNoBucketsAndNoWidth(t *testing.T) {
	for _, now := range times() {
		l := append(at(now), at(0)...)
		for _, buckets := range ends() {
			are(t, l, now, buckets, 0, told{})
			if buckets < 1 {
				for _, width := range times() {
					are(t, l, now, buckets, width, told{})
				}
			}
		}
	}
}

// P16.2: kinds below 0 and above window.Short are none, each other one is counted as itself.
func TestOfEachKind(t *testing.T) {
	for _, kind := range ends() {
		var want told
		if kind >= 0 && kind <= 4 {
			want[kind] = 3
		}
		are(t, []Event{{5, kind}, {5, kind}, {6, kind}}, 7, 1, 10, want)
	}
}

// P16.2, R2: no events, nil and empty.
func TestOfNoEvents(t *testing.T) {
	for _, now := range times() {
		for _, buckets := range ends() {
			for _, width := range times() {
				if Of(nil, now, buckets, width) != (told{}) || Of([]Event{}, now, buckets, width) != (told{}) {
					t.Errorf("of no events at %d, %d buckets, the width %d, some were counted", now, buckets, width)
				}
			}
		}
	}
}

// P16.2: the greatest width, time and number of buckets, where all is one bucket, and where each tick is one.
func TestOfTheGreatest(t *testing.T) {
	l := slices.Concat(at(0), at(1), at(1<<40), at(most-1), at(most))
	are(t, l, most, math.MaxInt, most, told{5, 5, 5, 5, 5})
	are(t, l, most, 1, most, told{1, 1, 1, 1, 1})
	are(t, l, most-1, 1, most, told{4, 4, 4, 4, 4})
	are(t, l, most, 1, 1, told{1, 1, 1, 1, 1})
	are(t, l, most, 2, 1, told{2, 2, 2, 2, 2})
	are(t, l, most, math.MaxInt, 1, told{2, 2, 2, 2, 2})
	are(t, l, 1<<40, 1, api.MaxTicks, told{1, 1, 1, 1, 1})
	are(t, l, 1<<40, 2, api.MaxTicks, told{3, 3, 3, 3, 3})
	are(t, l, 1<<40-1, 8, api.MaxTicks, told{2, 2, 2, 2, 2})
	are(t, at(1), math.MaxInt, math.MaxInt, 1, told{1, 1, 1, 1, 1})
	are(t, at(1), math.MaxInt+1, math.MaxInt, 1, told{})
}

// P16.2: each small time, now, number of buckets and width; the turn of the events plays no part.
func TestOfAllSmall(t *testing.T) {
	var l []Event
	for time := range uint64(14) {
		l = append(l, Event{time, int(time*3) % 7})
	}
	back := slices.Clone(l)
	slices.Reverse(back)
	for now := range uint64(20) {
		for buckets := -1; buckets <= 9; buckets++ {
			for width := range uint64(6) {
				for _, e := range l {
					are(t, []Event{e}, now, buckets, width, modelOf([]Event{e}, now, buckets, width))
				}
				want := modelOf(l, now, buckets, width)
				are(t, l, now, buckets, width, want)
				are(t, back, now, buckets, width, want)
			}
		}
	}
}

// P16.2, P1: numbers at their worst and of chance.
func TestOfAsTheModel(t *testing.T) {
	for seed := range int64(300) {
		chance := rand.New(rand.NewSource(seed))
		someTime := func() uint64 {
			if chance.Intn(4) == 0 {
				return times()[chance.Intn(len(times()))]
			}
			return uint64(chance.Intn(60))
		}
		var l []Event
		for range chance.Intn(12) {
			e := Event{someTime(), chance.Intn(window.Kinds)}
			if chance.Intn(5) == 0 {
				e.Kind = ends()[chance.Intn(len(ends()))]
			}
			l = append(l, e)
		}
		for range 20 {
			now, buckets, width := someTime(), chance.Intn(12)-1, uint64(chance.Intn(12))
			if chance.Intn(6) == 0 {
				width = someTime()
			}
			are(t, l, now, buckets, width, modelOf(l, now, buckets, width))
		}
	}
}

// watched is a window, and what was counted in it.
type watched struct {
	w       *window.Window
	buckets int
	width   uint64
	events  []Event
}

func watch(t *testing.T, buckets int, width uint64) *watched {
	t.Helper()
	w := window.New(buckets, width)
	if w == nil {
		t.Fatalf("there is no window of %d buckets of %d", buckets, width)
	}
	return &watched{w: w, buckets: buckets, width: width}
}

// count counts so many of a kind, each of which is an event.
func (w *watched) count(now uint64, kind int, n uint64) {
	w.w.Add(now, kind, n)
	for range n {
		w.events = append(w.events, Event{now, kind})
	}
}

// look holds what the window counts against Of, and tells it.
func (w *watched) look(t *testing.T, now uint64) told {
	t.Helper()
	counts, of := w.w.Counts(now), Of(w.events, now, w.buckets, w.width)
	if counts != of {
		t.Fatalf("%d buckets of %d at %d: the window counts %v, and Of %v is %v", w.buckets, w.width, now, counts, w.events, of)
	}
	return counts
}

// P16.3: what a window counts is Of of what was counted, at the time of the last one and at each later one.
func TestWindowsCountAsOf(t *testing.T) {
	w := watch(t, 2, 10)
	w.count(5, window.Success, 1)
	w.count(5, window.Failure, 2)
	w.count(12, window.Short, 1)
	w.count(19, window.Timeout, 3)
	w.count(19, -1, 1)
	w.count(19, window.Kinds, 1)
	for now := uint64(19); now < 40; now++ {
		w.look(t, now)
	}
	w.count(40, window.Rejected, 1)
	if c := w.look(t, 40); c != (told{window.Rejected: 1}) {
		t.Errorf("at 40: %v", c)
	}
	w.look(t, most)
}

// P16.3: windows of each number of buckets and of widths at the edges, of events of chance in the turn of their times.
func TestWindowsCountAsOfByChance(t *testing.T) {
	widths := []uint64{1, 2, 3, 10, 1000, api.MaxTicks - 1, api.MaxTicks}
	for seed := range int64(400) {
		chance := rand.New(rand.NewSource(seed))
		width := widths[chance.Intn(len(widths))]
		w := watch(t, 1+chance.Intn(api.MaxBuckets), width)
		now := uint64(0)
		for range 60 {
			switch chance.Intn(8) {
			case 0:
				now += width
			case 1:
				now += width * uint64(chance.Intn(12))
			case 2, 3:
				now += uint64(chance.Int63n(int64(width)))
			}
			if chance.Intn(3) == 0 {
				w.look(t, now)
			}
			w.count(now, chance.Intn(window.Kinds+2)-1, uint64(chance.Intn(3)))
			w.look(t, now)
		}
	}
}

// P16.3: all ways to count four times, of six steps in time and of three kinds.
func TestWindowsCountAsOfInAllShortWays(t *testing.T) {
	const steps, kinds, turns = 6, 3, 4
	ways := 1
	for range turns {
		ways *= steps * kinds
	}
	for buckets := 1; buckets <= 3; buckets++ {
		for way := range ways {
			w := watch(t, buckets, 2)
			now := uint64(0)
			for range turns {
				now += uint64(way % steps)
				way /= steps
				w.count(now, way%kinds*2, 1)
				way /= kinds
			}
			w.look(t, now)
			w.look(t, now+2)
		}
	}
}

// P16.3: what is short plays no part, however much of it there is, in no promise of P16.1.
func TestShortPlaysNoPart(t *testing.T) {
	for seed := range int64(300) {
		chance := rand.New(rand.NewSource(seed))
		c := told{uint64(chance.Intn(9)), uint64(chance.Intn(9)), uint64(chance.Intn(9)), uint64(chance.Intn(9)), 0}
		f := api.Conf{Volume: chance.Intn(40) - 1, Percent: chance.Intn(103) - 1}
		for _, short := range times() {
			s := c
			s[window.Short] = short
			sums(t, s, Errors(c), Volume(c))
			opens(t, s, f.Volume, f.Percent, Opens(c, f))
		}
	}
}

// P16.3, P6: a breaker opens just if the counts of the last buckets say so, and not by what was counted ahead of them, or was short.
func TestOpensByTheLastBuckets(t *testing.T) {
	f := api.Conf{Volume: 4, Percent: 50}
	w := watch(t, 2, 10)
	for step, e := range []struct {
		now  uint64
		kind int
		want bool
	}{
		{0, window.Failure, false},
		{3, window.Failure, false},
		{9, window.Short, false},
		{9, window.Timeout, false},
		{10, window.Success, true},
		{19, window.Success, true},
		{19, window.Success, true},
		{19, window.Success, false},
		{20, window.Rejected, false},
		{25, window.Rejected, false},
		{29, window.Short, false},
		{29, window.Failure, false},
		{29, window.Timeout, true},
		{30, window.Short, true},
		{40, window.Short, false},
	} {
		w.count(e.now, e.kind, 1)
		c := w.look(t, e.now)
		if got := Opens(c, f); got != e.want || got != modelOpens(modelOf(w.events, e.now, 2, 10), f) {
			t.Errorf("step %d, at %d: Opens(%v) is %t, want %t", step, e.now, c, got, e.want)
		}
	}
}

// P16.1, P16.3: what a cause is counted as is counted: each of the four once, of which three are errors, and the one that is short isn't.
func TestCausesAreCounted(t *testing.T) {
	w := watch(t, 1, 10)
	for _, cause := range []int{api.Error, api.Timeout, api.Rejected, api.Short} {
		kind, ok := Kind(cause)
		if !ok {
			t.Fatalf("the cause %d is counted as nothing", cause)
		}
		w.count(5, kind, 1)
	}
	c := w.look(t, 5)
	if c != (told{0, 1, 1, 1, 1}) {
		t.Errorf("counts of each cause once: %v", c)
	}
	sums(t, c, 3, 3)
}
