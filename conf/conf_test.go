package conf

import (
	"math"
	"math/big"
	"math/rand"
	"testing"

	"porpoise/api"
)

const most = math.MaxUint64

const ticks = 1 << 40

// pooled is a configuration of the mode Pool that may be, without a window.
func pooled() api.Conf {
	return api.Conf{
		Mode: api.Pool, Pool: 3, Queue: 5, FbMax: 2, Chain: 1, Timeout: 10, FbTimeout: 4,
		Volume: 20, Percent: 50, Sleep: 30, Buckets: 6, Width: 7, Force: api.ForceNone,
	}
}

// permitted is one of the mode Semaphore that may be, with a window.
func permitted() api.Conf {
	return api.Conf{
		Mode: api.Semaphore, Sem: 4, FbMax: 1, Chain: 2, Timeout: 11, FbTimeout: 5,
		Volume: 21, Percent: 51, Sleep: 31, Buckets: 2, Width: 8, Window: 9, Batch: 3, Force: api.ForceOpen,
	}
}

// limit is what a field may be, by its number, in the configuration c.
type limit struct {
	c           api.Conf
	number      int
	least, most int64
}

// limits are the chapter's words: the fields in turn, those that hang on others in each way.
func limits() []limit {
	p, s := pooled(), permitted()
	alone, together := s, p
	alone.Window, alone.Batch = 0, 0
	together.Window, together.Batch = ticks, 4
	l := []limit{
		{p, 2, 1, 8}, {p, 3, 0, 8}, {p, 4, 0, 0},
		{s, 2, 0, 0}, {s, 3, 0, 0}, {s, 4, 1, 8},
		{p, 15, 0, 0}, {alone, 15, 0, 0}, {s, 15, 1, 4}, {together, 15, 1, 4},
		{p, 14, 0, 0}, {alone, 14, 0, 0}, {s, 14, 1, ticks}, {together, 14, 1, ticks},
		{p, 1, 1, 1}, {s, 1, 2, 2},
	}
	for _, c := range []api.Conf{p, s, alone, together} {
		l = append(l,
			limit{c, 5, 0, 4}, limit{c, 6, 0, 3}, limit{c, 7, 1, ticks}, limit{c, 8, 1, ticks},
			limit{c, 9, 1, 1000}, limit{c, 10, 0, 100}, limit{c, 11, 0, ticks}, limit{c, 12, 1, 8},
			limit{c, 13, 1, ticks}, limit{c, 16, 0, 2},
		)
	}
	return l
}

// whole are the fields that are uint64 numbers, by their numbers.
func whole(number int) bool {
	switch number {
	case 7, 8, 11, 13, 14:
		return true
	}
	return false
}

// set is c with another number in a field; below 0 it is taken modulo 2^64, where the field is a uint64.
func set(c api.Conf, number int, v int64) api.Conf {
	switch number {
	case 1:
		c.Mode = int(v)
	case 2:
		c.Pool = int(v)
	case 3:
		c.Queue = int(v)
	case 4:
		c.Sem = int(v)
	case 5:
		c.FbMax = int(v)
	case 6:
		c.Chain = int(v)
	case 7:
		c.Timeout = uint64(v)
	case 8:
		c.FbTimeout = uint64(v)
	case 9:
		c.Volume = int(v)
	case 10:
		c.Percent = int(v)
	case 11:
		c.Sleep = uint64(v)
	case 12:
		c.Buckets = int(v)
	case 13:
		c.Width = uint64(v)
	case 14:
		c.Window = uint64(v)
	case 15:
		c.Batch = int(v)
	case 16:
		c.Force = int(v)
	}
	return c
}

// built is the configuration of some fields, whether it may be or not.
func built(f [Fields]int64) api.Conf {
	var c api.Conf
	for i, v := range f {
		c = set(c, i+1, v)
	}
	return c
}

// within tells whether a number is one of some.
func within(n, least, most int) bool { return least <= n && n <= most }

// may tells of each field, in turn, whether it may be: the chapter's words, over the configuration itself.
func may(c api.Conf) [Fields]bool {
	inPool, inSem := c.Mode == 1, c.Mode == 2
	batched := c.Batch == 0
	if c.Window != 0 {
		batched = within(c.Batch, 1, 4)
	}
	return [Fields]bool{
		inPool || inSem,
		inPool && within(c.Pool, 1, 8) || !inPool && c.Pool == 0,
		inPool && within(c.Queue, 0, 8) || !inPool && c.Queue == 0,
		inSem && within(c.Sem, 1, 8) || !inSem && c.Sem == 0,
		within(c.FbMax, 0, 4),
		within(c.Chain, 0, 3),
		c.Timeout >= 1 && c.Timeout <= ticks,
		c.FbTimeout >= 1 && c.FbTimeout <= ticks,
		within(c.Volume, 1, 1000),
		within(c.Percent, 0, 100),
		c.Sleep <= ticks,
		within(c.Buckets, 1, 8),
		c.Width >= 1 && c.Width <= ticks,
		c.Window <= ticks,
		batched,
		within(c.Force, 0, 2),
	}
}

// wrong is what Check should tell.
func wrong(c api.Conf) (int, api.Errno) {
	for i, ok := range may(c) {
		if !ok {
			return i + 1, api.ErrArg
		}
	}
	return 0, api.OK
}

// edges are numbers at which some field's limit is, those beside them, and some that a narrower type, or another sign, would make one that may be.
func edges() []int64 {
	return []int64{
		math.MinInt64, math.MinInt64 + 1, math.MinInt64 + 3, -ticks, -1 << 32, 1 - 1<<32, -256, -255, -8, -2, -1,
		0, 1, 2, 3, 4, 5, 7, 8, 9, 10, 50, 99, 100, 101, 255, 256, 257, 258, 999, 1000, 1001,
		1<<16 + 1, 1<<32 - 1, 1 << 32, 1<<32 + 1, 1<<32 + 2,
		ticks - 1, ticks, ticks + 1, 1 << 41, 1 << 62, math.MaxInt64 - 1, math.MaxInt64,
	}
}

// lowest and greatest are the ends of what a field's type may hold, put as int64.
func lowest(number int) int64 {
	if whole(number) {
		return 0
	}
	return math.MinInt64
}

func greatest(number int) int64 {
	if whole(number) {
		return -1
	}
	return math.MaxInt64
}

// expectCheck wants that a configuration may be, or that this is its first field that may not; Take must tell the same of its fields.
func expectCheck(t *testing.T, c api.Conf, number int) {
	t.Helper()
	want := api.Errno(api.OK)
	if number > 0 {
		want = api.ErrArg
	}
	if n, e := Check(c); n != number || e != want {
		t.Errorf("Check(%+v) = %d, %d, want %d, %d", c, n, e, number, want)
	}
	back := c
	if number > 0 {
		back = api.Conf{}
	}
	if got, n, e := Take(Put(c)); got != back || n != number || e != want {
		t.Errorf("Take(Put(%+v)) = %+v, %d, %d, want %+v, %d, %d", c, got, n, e, back, number, want)
	}
}

// chosen is a configuration that may be, of chance.
func chosen(chance *rand.Rand) api.Conf {
	span := func(least, most int) int { return least + chance.Intn(most-least+1) }
	far := func(least uint64) uint64 {
		if chance.Intn(4) == 0 {
			return ticks
		}
		return least + uint64(chance.Int63n(ticks))>>chance.Intn(41)
	}
	c := api.Conf{
		Mode: span(1, 2), FbMax: span(0, 4), Chain: span(0, 3), Timeout: far(1), FbTimeout: far(1),
		Volume: span(1, 1000), Percent: span(0, 100), Sleep: far(0), Buckets: span(1, 8), Width: far(1), Force: span(0, 2),
	}
	if c.Mode == api.Pool {
		c.Pool, c.Queue = span(1, 8), span(0, 8)
	} else {
		c.Sem = span(1, 8)
	}
	if chance.Intn(2) == 0 {
		c.Window, c.Batch = far(1), span(1, 4)
	}
	return c
}

// The chapter's constant, which has no type of its own.
func TestFields(t *testing.T) {
	var small uint8 = Fields // does not compile, if Fields has a type
	if small != 16 {
		t.Errorf("there are %d fields", small)
	}
}

// P8.1: Check, of ordinary configurations.
func TestCheck(t *testing.T) {
	expectCheck(t, pooled(), 0)
	expectCheck(t, permitted(), 0)
	least := api.Conf{Mode: api.Pool, Pool: 1, Timeout: 1, FbTimeout: 1, Volume: 1, Buckets: 1, Width: 1}
	expectCheck(t, least, 0)
	expectCheck(t, api.Conf{
		Mode: api.Semaphore, Sem: 8, FbMax: 4, Chain: 3, Timeout: ticks, FbTimeout: ticks, Volume: 1000, Percent: 100,
		Sleep: ticks, Buckets: 8, Width: ticks, Window: ticks, Batch: 4, Force: api.ForceClosed,
	}, 0)
	least.Pool = 0
	expectCheck(t, least, 2) // the chapter's example
	expectCheck(t, api.Conf{}, 1)
}

// P8.1: of each field the least and the greatest number that it may be, those beside them, and the ends of its type.
func TestCheckAtTheLimits(t *testing.T) {
	for _, l := range limits() {
		expectCheck(t, set(l.c, l.number, l.least), 0)
		expectCheck(t, set(l.c, l.number, l.most), 0)
		expectCheck(t, set(l.c, l.number, (l.least+l.most)/2), 0)
		for _, v := range []int64{lowest(l.number), greatest(l.number), -1, l.least - 1, l.most + 1, l.most + 256, l.most + 1<<32, math.MaxInt64, math.MinInt64} {
			if v >= l.least && v <= l.most {
				continue
			}
			c := set(l.c, l.number, v)
			number := l.number
			switch {
			case l.number == 1 && v == api.Semaphore: // of the pool's fields the first one isn't 0
				number = 2
			case l.number == 1 && v == api.Pool: // there is no worker
				number = 2
			case l.number == 14 && v >= 0 && v <= ticks: // the window may be, but not with that batch
				number = 15
			}
			expectCheck(t, c, number)
		}
	}
}

// P8.1: the fields of one mode alone, in both modes, and in one that is none.
func TestCheckOfTheMode(t *testing.T) {
	p := pooled()
	p.Mode = api.Semaphore
	expectCheck(t, p, 2)
	p.Pool = 0
	expectCheck(t, p, 3)
	p.Queue = 0
	expectCheck(t, p, 4)
	p.Sem = 8
	expectCheck(t, p, 0)
	p.Mode = api.Pool
	expectCheck(t, p, 2)
	p.Pool = 8
	expectCheck(t, p, 4)
	p.Sem = 0
	expectCheck(t, p, 0)
	for _, v := range edges() {
		if v == api.Pool || v == api.Semaphore {
			continue
		}
		expectCheck(t, set(pooled(), 1, v), 1)
		expectCheck(t, set(permitted(), 1, v), 1)
		none := set(pooled(), 1, v)
		none.Pool, none.Queue = 0, 0
		expectCheck(t, none, 1)
	}
}

// P8.1: a batch is there just with a window.
func TestCheckOfTheBatch(t *testing.T) {
	for _, c := range []api.Conf{pooled(), permitted()} {
		for batch := -1; batch <= 5; batch++ {
			c.Batch = batch
			for _, window := range []uint64{1, 2, ticks - 1, ticks} {
				c.Window = window
				if batch >= 1 && batch <= 4 {
					expectCheck(t, c, 0)
				} else {
					expectCheck(t, c, 15)
				}
			}
			for _, window := range []uint64{ticks + 1, 1 << 63, most} {
				c.Window = window
				expectCheck(t, c, 14)
			}
			c.Window = 0
			if batch == 0 {
				expectCheck(t, c, 0)
			} else {
				expectCheck(t, c, 15)
			}
		}
	}
}

// P8.1: of several fields that may not be the first one is told.
func TestCheckTellsTheFirst(t *testing.T) {
	for _, c := range []api.Conf{pooled(), permitted()} {
		for first := 1; first <= Fields; first++ {
			bad := set(c, first, math.MinInt64)
			expectCheck(t, bad, first)
			for second := first + 1; second <= Fields; second++ {
				expectCheck(t, set(bad, second, math.MaxInt64), first)
			}
			for second := first + 1; second <= Fields; second++ {
				bad = set(bad, second, -1)
			}
			expectCheck(t, bad, first)
		}
	}
}

// P8.1: each field, of all edges, in configurations that may be else, is as the chapter's words have it.
func TestCheckAsTheWords(t *testing.T) {
	for _, l := range limits() {
		for _, v := range edges() {
			c := set(l.c, l.number, v)
			n, _ := wrong(c)
			expectCheck(t, c, n)
		}
	}
}

// P8.1 and P1: whatever the fields are, few of them or all.
func TestCheckOfChance(t *testing.T) {
	chance := rand.New(rand.NewSource(8))
	l := edges()
	for range 50000 {
		c := chosen(chance)
		for range chance.Intn(4) {
			c = set(c, 1+chance.Intn(Fields), l[chance.Intn(len(l))])
		}
		if chance.Intn(8) == 0 {
			for number := 1; number <= Fields; number++ {
				c = set(c, number, int64(chance.Uint64())>>chance.Intn(64))
			}
		}
		n, _ := wrong(c)
		expectCheck(t, c, n)
	}
}

// P8.1: Bound, of a chain that is none, and of the longest.
func TestBound(t *testing.T) {
	for _, x := range []struct {
		timeout, window uint64
		chain           int
		fbTimeout, want uint64
	}{
		{10, 5, 2, 4, 24},
		{1, 0, 0, 1, 2},
		{1, 0, 0, ticks, 2},
		{7, 9, 0, 100, 17},
		{7, 9, 1, 100, 117},
		{7, 9, 3, 100, 317},
		{7, 0, 3, 100, 308},
		{1, 0, 3, 1, 5},
		{ticks, ticks, 0, ticks, 2*ticks + 1},
		{ticks, ticks, 3, ticks, 5*ticks + 1},
		{ticks, 0, 3, ticks, 4*ticks + 1},
	} {
		for _, c := range []api.Conf{pooled(), permitted()} {
			c.Timeout, c.Window, c.Chain, c.FbTimeout = x.timeout, x.window, x.chain, x.fbTimeout
			if got := Bound(c); got != x.want {
				t.Errorf("Bound(%+v) = %d, want %d", c, got, x.want)
			}
		}
	}
	if got := Bound(pooled()); got != 15 {
		t.Errorf("Bound(%+v) = %d, want 15", pooled(), got)
	}
}

// P8.1: Bound, of configurations that may not be: it doesn't go over.
func TestBoundThatGoesOver(t *testing.T) {
	for _, x := range []struct {
		timeout, window uint64
		chain           int
		fbTimeout, want uint64
	}{
		{0, 0, 0, 0, 1},
		{most, 0, 0, 0, most},
		{most - 1, 0, 0, 0, most},
		{most - 2, 0, 0, 0, most - 1},
		{0, most, 0, 0, most},
		{most, most, math.MaxInt, most, most},
		{1 << 63, 1 << 63, 0, 0, most},
		{1 << 63, 1<<63 - 2, 0, 0, most},
		{1 << 63, 1<<63 - 3, 0, 0, most - 1},
		{1 << 63, 1<<63 - 3, 0, most, most - 1},
		{0, 0, 1, most, most},
		{0, 0, 1, most - 2, most - 1},
		{0, 0, 2, 1 << 63, most},
		{5, 5, 4, 1 << 62, most},
		{5, 5, 4, 1<<62 - 3, most},
		{5, 5, 4, 1<<62 - 4, most - 4},
		{5, 5, math.MaxInt, 2, most},
		{5, 5, math.MaxInt, 1, 1<<63 + 10},
		{5, 5, math.MaxInt, 0, 11},
		{5, 5, 4, 10, 51},
	} {
		c := api.Conf{Timeout: x.timeout, Window: x.window, Chain: x.chain, FbTimeout: x.fbTimeout}
		if got := Bound(c); got != x.want {
			t.Errorf("Bound(%+v) = %d, want %d", c, got, x.want)
		}
	}
}

// P8.1: a chain below 0, which may not be, is one as a uint64.
func TestBoundOfAChainBelowZero(t *testing.T) {
	for _, chain := range []int{-1, -2, -9, math.MinInt + 1, math.MinInt} {
		for _, fbTimeout := range []uint64{2, 3, ticks, most} {
			c := pooled()
			c.Chain, c.FbTimeout = chain, fbTimeout
			if got := Bound(c); got != most {
				t.Errorf("Bound(%+v) = %d, want %d", c, got, uint64(most))
			}
		}
		c := pooled()
		c.Chain, c.FbTimeout = chain, 0
		if got := Bound(c); got != 11 {
			t.Errorf("Bound(%+v) = %d, want 11", c, got)
		}
	}
}

// P8.1: Bound is the sum as a number without an end, or the greatest number, if that is more; no other field plays a part.
func TestBoundAsNumbersWithoutAnEnd(t *testing.T) {
	chance := rand.New(rand.NewSource(81))
	number := func() uint64 { return chance.Uint64() >> chance.Intn(65) }
	for range 20000 {
		c := chosen(chance)
		if chance.Intn(2) == 0 {
			c.Timeout, c.Window, c.FbTimeout = number(), number(), number()
			c.Chain = int(chance.Int63() >> chance.Intn(64))
		}
		sum := new(big.Int).SetUint64(c.FbTimeout)
		sum.Mul(sum, big.NewInt(int64(c.Chain)))
		for _, n := range []uint64{c.Timeout, c.Window, 1} {
			sum.Add(sum, new(big.Int).SetUint64(n))
		}
		want := uint64(most)
		if sum.IsUint64() {
			want = sum.Uint64()
		}
		if got := Bound(c); got != want {
			t.Fatalf("Bound(%+v) = %d, want %d", c, got, want)
		}
		bare := api.Conf{Timeout: c.Timeout, Window: c.Window, Chain: c.Chain, FbTimeout: c.FbTimeout}
		if got := Bound(bare); got != want {
			t.Fatalf("Bound(%+v) = %d, want %d", bare, got, want)
		}
	}
}

// P8.2: Put, the fields in turn, also of what may not be.
func TestPut(t *testing.T) {
	c := api.Conf{
		Mode: 1, Pool: 2, Queue: 3, Sem: 4, FbMax: 5, Chain: 6, Timeout: 7, FbTimeout: 8,
		Volume: 9, Percent: 10, Sleep: 11, Buckets: 12, Width: 13, Window: 14, Batch: 15, Force: 16,
	}
	if got, want := Put(c), ([Fields]int64{1, 2, 3, 4, 5, 6, 7, 8, 9, 10, 11, 12, 13, 14, 15, 16}); got != want {
		t.Errorf("Put(%+v) = %v, want %v", c, got, want)
	}
	if got := Put(api.Conf{}); got != [Fields]int64{} {
		t.Errorf("Put of the zero configuration = %v", got)
	}
	if got, want := Put(permitted()), ([Fields]int64{2, 0, 0, 4, 1, 2, 11, 5, 21, 51, 31, 2, 8, 9, 3, 1}); got != want {
		t.Errorf("Put(%+v) = %v, want %v", permitted(), got, want)
	}
}

// P8.2: Put, of numbers below 0, and of those that don't fit: modulo 2^64.
func TestPutOfWhatDoesntFit(t *testing.T) {
	c := api.Conf{
		Mode: -1, Pool: math.MinInt, Queue: math.MaxInt, Sem: -2, FbMax: math.MinInt + 1, Chain: -3,
		Timeout: most, FbTimeout: 1 << 63, Volume: -4, Percent: -5, Sleep: 1<<63 - 1, Buckets: -6,
		Width: 1<<63 + 1, Window: most - 1, Batch: -7, Force: -8,
	}
	want := [Fields]int64{
		-1, math.MinInt64, math.MaxInt64, -2, math.MinInt64 + 1, -3,
		-1, math.MinInt64, -4, -5, math.MaxInt64, -6,
		math.MinInt64 + 1, -2, -7, -8,
	}
	if got := Put(c); got != want {
		t.Errorf("Put(%+v) = %v, want %v", c, got, want)
	}
}

// P8.2: Put, each field at all edges, and no other one.
func TestPutOfEachField(t *testing.T) {
	for number := 1; number <= Fields; number++ {
		for _, v := range edges() {
			var want [Fields]int64
			want[number-1] = v
			if got := Put(set(api.Conf{}, number, v)); got != want {
				t.Errorf("field %d, %d: put as %v", number, v, got)
			}
		}
	}
}

// P8.2: Take, of fields that may be.
func TestTake(t *testing.T) {
	for _, x := range []struct {
		f    [Fields]int64
		want api.Conf
	}{
		{[Fields]int64{1, 3, 5, 0, 2, 1, 10, 4, 20, 50, 30, 6, 7, 0, 0, 0}, pooled()},
		{[Fields]int64{2, 0, 0, 4, 1, 2, 11, 5, 21, 51, 31, 2, 8, 9, 3, 1}, permitted()},
	} {
		if c, n, e := Take(x.f); c != x.want || n != 0 || e != api.OK {
			t.Errorf("Take(%v) = %+v, %d, %d, want %+v, 0, OK", x.f, c, n, e, x.want)
		}
	}
}

// expectRefused wants no configuration of some fields, and the number of the first that may not be.
func expectRefused(t *testing.T, f [Fields]int64, number int) {
	t.Helper()
	if c, n, e := Take(f); c != (api.Conf{}) || n != number || e != api.ErrArg {
		t.Errorf("Take(%v) = %+v, %d, %d, want the zero one, %d, ErrArg", f, c, n, e, number)
	}
}

// P8.2: Take, of numbers below 0, and of the ends of an int64, in each field.
func TestTakeRefuses(t *testing.T) {
	expectRefused(t, [Fields]int64{}, 1)
	for _, c := range []api.Conf{pooled(), permitted()} {
		for number := 1; number <= Fields; number++ {
			for _, v := range []int64{math.MinInt64, math.MinInt64 + 1, math.MinInt64 + 1000, -ticks, 2 - 1<<32, -254, -1, math.MaxInt64, math.MaxInt64 - 1, ticks + 1} {
				f := Put(c)
				f[number-1] = v
				expectRefused(t, f, number)
				for second := number + 1; second <= Fields; second++ {
					f[second-1] = -1
				}
				expectRefused(t, f, number)
			}
		}
	}
}

// P8.2: Take tells what Check tells of the configuration of these fields, whatever they are.
func TestTakeAsCheck(t *testing.T) {
	chance := rand.New(rand.NewSource(82))
	l := edges()
	for range 50000 {
		f := Put(chosen(chance))
		for range chance.Intn(5) {
			f[chance.Intn(Fields)] = l[chance.Intn(len(l))]
		}
		want := built(f)
		n, e := wrong(want)
		if got, m := Check(want); got != n || m != e {
			t.Fatalf("Check(%+v) = %d, %d, want %d, %d", want, got, m, n, e)
		}
		if e != api.OK {
			want = api.Conf{}
		}
		if c, got, m := Take(f); c != want || got != n || m != e {
			t.Fatalf("Take(%v) = %+v, %d, %d, want %+v, %d, %d", f, c, got, m, want, n, e)
		}
	}
}

// P8.3: what may be is told there and back, both ways round.
func TestThereAndBack(t *testing.T) {
	chance := rand.New(rand.NewSource(83))
	for range 50000 {
		c := chosen(chance)
		f := Put(c)
		back, n, e := Take(f)
		if back != c || n != 0 || e != api.OK {
			t.Fatalf("Take(Put(%+v)) = %+v, %d, %d", c, back, n, e)
		}
		if Put(back) != f {
			t.Fatalf("Put(Take(%v)) = %v", f, Put(back))
		}
	}
}

// P8.3: at the limits of each field, too.
func TestThereAndBackAtTheLimits(t *testing.T) {
	for _, l := range limits() {
		for _, v := range []int64{l.least, l.most} {
			f := Put(l.c)
			f[l.number-1] = v
			c, n, e := Take(f)
			if c != set(l.c, l.number, v) || n != 0 || e != api.OK || Put(c) != f {
				t.Errorf("field %d, %d: Take(%v) = %+v, %d, %d", l.number, v, f, c, n, e)
			}
		}
	}
}
