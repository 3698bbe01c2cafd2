package latch

import (
	"maps"
	"math"
	"math/rand"
	"slices"
	"testing"

	"porpoise/api"
)

// model is the chapter's words, over a list of outcomes that is looked through.
type model struct{ outs []api.Out }

// pairs are the kinds and causes that may be together, written out one by one.
func pairs() [][2]int {
	return [][2]int{
		{api.Success, api.NoCause},
		{api.Hit, api.NoCause},
		{api.Fall, api.Error}, {api.Fall, api.Timeout}, {api.Fall, api.Rejected}, {api.Fall, api.Short},
		{api.Failed, api.Error}, {api.Failed, api.Timeout}, {api.Failed, api.Rejected}, {api.Failed, api.Short},
	}
}

func may(o api.Out) bool {
	return slices.Contains(pairs(), [2]int{o.Kind, o.Cause}) && (o.Kind != api.Failed || o.Val == 0)
}

func (m *model) of(id int) (api.Out, bool) {
	for _, o := range m.outs {
		if o.Id == id {
			return o, true
		}
	}
	return api.Out{}, false
}

func (m *model) emit(o api.Out) bool {
	if _, there := m.of(o.Id); there || !may(o) {
		return false
	}
	m.outs = append(m.outs, o)
	return true
}

func (m *model) since(n int) []api.Out {
	var rest []api.Out
	for place, o := range m.outs {
		if place >= n {
			rest = append(rest, o)
		}
	}
	return rest
}

// pair is a log, and what it should be.
type pair struct {
	t *testing.T
	l *Log
	m *model
}

func newPair(t *testing.T) pair {
	t.Helper()
	p := pair{t, New(), &model{}}
	if p.l == nil {
		t.Fatal("New() is nil")
	}
	p.look()
	return p
}

func (p pair) emit(o api.Out) bool {
	p.t.Helper()
	got, want := p.l.Emit(o), p.m.emit(o)
	if got != want {
		p.t.Fatalf("Emit(%+v) = %t behind %+v, want %t", o, got, p.m.outs, want)
	}
	p.look()
	p.lookAt(o.Id)
	return got
}

// look holds all that a log tells of what was emitted against the model.
func (p pair) look() {
	p.t.Helper()
	if got := p.l.All(); !slices.Equal(got, p.m.outs) {
		p.t.Fatalf("All() = %+v, want %+v", got, p.m.outs)
	}
	for _, n := range []int{math.MinInt, -1, 0, 1, len(p.m.outs) / 2, len(p.m.outs) - 1, len(p.m.outs), len(p.m.outs) + 1, math.MaxInt} {
		p.lookSince(n)
	}
}

func (p pair) lookSince(n int) {
	p.t.Helper()
	if got, want := p.l.Since(n), p.m.since(n); !slices.Equal(got, want) {
		p.t.Fatalf("Since(%d) = %+v, want %+v", n, got, want)
	}
}

func (p pair) lookAt(id int) {
	p.t.Helper()
	o, ok := p.l.Of(id)
	if want, there := p.m.of(id); o != want || ok != there {
		p.t.Fatalf("Of(%d) = %+v, %t, want %+v, %t", id, o, ok, want, there)
	}
}

// expect holds a log against the outcomes that it should have, in turn.
func expect(t *testing.T, l *Log, want ...api.Out) {
	t.Helper()
	if got := l.All(); !slices.Equal(got, want) {
		t.Fatalf("All() = %+v, want %+v", got, want)
	}
	for _, o := range want {
		if got, ok := l.Of(o.Id); got != o || !ok {
			t.Fatalf("Of(%d) = %+v, %t, want %+v", o.Id, got, ok, o)
		}
	}
}

// emitted is a log of outcomes that may be, of unlike commands.
func emitted(t *testing.T, outs ...api.Out) *Log {
	t.Helper()
	l := New()
	for _, o := range outs {
		if !l.Emit(o) {
			t.Fatalf("Emit(%+v) is false", o)
		}
	}
	expect(t, l, outs...)
	return l
}

// fine is an outcome of a command that may be: of the kinds and causes in turn, with a value where one may be.
func fine(id, turn int) api.Out {
	both := pairs()[turn%len(pairs())]
	o := api.Out{Id: id, Kind: both[0], Cause: both[1], Val: turn + 1, At: uint64(turn)}
	if o.Kind == api.Failed {
		o.Val = 0
	}
	return o
}

// some are outcomes that may be, of so many unlike commands, that don't rise.
func some(count int) []api.Out {
	var outs []api.Out
	for turn := range count {
		outs = append(outs, fine((count-turn)*7, turn))
	}
	return outs
}

// wrong are outcomes of a command that may not be.
func wrong(id int) []api.Out {
	return []api.Out{
		{Id: id},
		{Id: id, Kind: api.Success, Cause: api.Error},
		{Id: id, Kind: api.Hit, Cause: api.Short, Val: 4},
		{Id: id, Kind: api.Fall, Val: 4},
		{Id: id, Kind: api.Failed},
		{Id: id, Kind: api.Failed, Cause: api.Timeout, Val: 1},
		{Id: id, Kind: 5, Cause: api.Error},
		{Id: id, Kind: api.Fall, Cause: 5},
	}
}

// ends are the numbers that a field may have at its worst; some are kinds or causes, if all but their last bits are lost.
func ends() []int {
	return []int{math.MinInt, math.MinInt + 1, math.MinInt32, -1 << 32, -256, -4, -1, 0, 1, 256, 1 << 32, math.MaxInt32, math.MaxInt - 1, math.MaxInt}
}

// codes are kinds, or causes: all that there are, those beside them, and others that are none.
func codes() []int {
	all := append(ends(), -3, -2, 2, 3, 4, 5, 6, 7, 8)
	for low := range 6 {
		all = append(all, 256+low, 1<<16+low, 1<<32+low, low-1<<32, math.MinInt+low)
	}
	return all
}

func times() []uint64 { return []uint64{0, 1, api.MaxTicks, math.MaxUint64} }

// P11.1: May, of each kind with each cause, those that are none too, with a value and without.
func TestMay(t *testing.T) {
	for _, kind := range codes() {
		for _, cause := range codes() {
			for _, val := range ends() {
				o := api.Out{Id: 3, Kind: kind, Cause: cause, Val: val, At: 9}
				if got, want := May(o), may(o); got != want {
					t.Fatalf("May(%+v) = %t, want %t", o, got, want)
				}
			}
		}
	}
}

// P11.1: word for word, each kind with each cause that there is.
func TestMayOfEachKind(t *testing.T) {
	for _, one := range []struct {
		name      string
		kind, val int
		may       [5]bool // by cause: none, an error, timed out, rejected, short
	}{
		{"a success", api.Success, 0, [5]bool{true}},
		{"a success with a value", api.Success, 7, [5]bool{true}},
		{"a hit", api.Hit, 0, [5]bool{true}},
		{"a hit with a value", api.Hit, -7, [5]bool{true}},
		{"a fallback", api.Fall, 0, [5]bool{false, true, true, true, true}},
		{"a fallback with a value", api.Fall, 7, [5]bool{false, true, true, true, true}},
		{"a failure", api.Failed, 0, [5]bool{false, true, true, true, true}},
		{"a failure with a value", api.Failed, 1, [5]bool{}},
		{"a failure with one below 0", api.Failed, -1, [5]bool{}},
		{"no kind", 0, 0, [5]bool{}},
		{"a kind behind the last one", api.Failed + 1, 0, [5]bool{}},
		{"a kind below 0", -1, 0, [5]bool{}},
	} {
		for cause, want := range one.may {
			if got := May(api.Out{Kind: one.kind, Cause: cause, Val: one.val}); got != want {
				t.Errorf("%s, of the cause %d, may be: %t, want %t", one.name, cause, got, want)
			}
		}
		for _, cause := range []int{-1, 5, math.MinInt, math.MaxInt} {
			if May(api.Out{Kind: one.kind, Cause: cause, Val: one.val}) {
				t.Errorf("%s, of the cause %d, which is none, may be", one.name, cause)
			}
		}
	}
}

// P11.1: neither the command nor the time plays a part.
func TestMayOfAnyIdAndTime(t *testing.T) {
	for _, id := range ends() {
		for _, at := range times() {
			for turn := range pairs() {
				o := fine(id, turn)
				o.At = at
				if !May(o) {
					t.Errorf("May(%+v) is false", o)
				}
			}
			for _, o := range wrong(id) {
				o.At = at
				if May(o) {
					t.Errorf("May(%+v) is true", o)
				}
			}
		}
	}
}

// P11.2: New, with nothing.
func TestNew(t *testing.T) {
	p := newPair(t)
	for _, n := range codes() {
		p.lookAt(n)
		p.lookSince(n)
		if len(p.l.Since(n)) != 0 {
			t.Errorf("an empty log tells something behind %d", n)
		}
	}
	if len(p.l.All()) != 0 {
		t.Error("an empty log tells something")
	}
}

// P11.2: Emit notes just what may be, whatever its fields are, and notes it whole.
func TestEmitOfEachOutcome(t *testing.T) {
	for _, kind := range codes() {
		for _, cause := range codes() {
			for _, val := range []int{math.MinInt, -1, 0, 1, math.MaxInt} {
				o := api.Out{Id: 3, Kind: kind, Cause: cause, Val: val, At: 9}
				l := New()
				if got := l.Emit(o); got != may(o) {
					t.Fatalf("Emit(%+v) = %t", o, got)
				}
				if may(o) {
					expect(t, l, o)
				} else {
					expect(t, l)
				}
			}
		}
	}
}

// P11.2: any number is an id, a value and a time: they are told as they were emitted.
func TestEmitOfAnyNumbers(t *testing.T) {
	p := newPair(t)
	for _, id := range ends() {
		p.lookAt(id)
		for _, at := range times() {
			for _, val := range ends() {
				o := api.Out{Id: id, Kind: api.Fall, Cause: api.Rejected, Val: val, At: at}
				expect(t, emitted(t, o), o)
				p.emit(o)
			}
		}
	}
	if got := len(p.l.All()); got != len(ends()) {
		t.Errorf("of %d commands there are %d outcomes", len(ends()), got)
	}
	for _, id := range ends() {
		p.lookAt(id)
	}
}

// P11.2: many commands, of each kind, in whatever turn: each is the last one when it is emitted, and is told of its own.
func TestEmitOfMany(t *testing.T) {
	outs := some(api.MaxId)
	for seed := range int64(3) {
		rand.New(rand.NewSource(seed)).Shuffle(len(outs), func(i, j int) { outs[i], outs[j] = outs[j], outs[i] })
		l := New()
		for n, o := range outs {
			if _, ok := l.Of(o.Id); ok || !l.Emit(o) {
				t.Fatalf("seed %d: Emit(%+v) is false, or there was one", seed, o)
			}
			if last := l.Since(n); len(last) != 1 || last[0] != o {
				t.Fatalf("seed %d: the last one is %+v, want %+v", seed, last, o)
			}
		}
		expect(t, l, outs...)
	}
}

// P11.2, P3: emitted twice, alike or unlike, a command has its first outcome, at its first place.
func TestEmitTwice(t *testing.T) {
	for _, id := range []int{0, 1, -1, math.MinInt, math.MaxInt} {
		for first := range pairs() {
			p := newPair(t)
			p.emit(fine(5, 2))
			p.emit(fine(id, first))
			p.emit(fine(6, 0))
			for second := range 3 * len(pairs()) {
				if p.emit(fine(id, second)) {
					t.Fatalf("%d has a second outcome", id)
				}
			}
			for _, o := range wrong(id) {
				p.emit(o)
			}
			if id != 1 {
				p.emit(fine(1, 4))
			}
			if o, ok := p.l.Of(id); o != fine(id, first) || !ok {
				t.Fatalf("Of(%d) = %+v, %t, want its first one", id, o, ok)
			}
		}
	}
}

// P11.2: one that may not be is nothing: not the command's outcome, and no latch for one that may.
func TestEmitOfWrongAheadOfFine(t *testing.T) {
	for turn := range pairs() {
		p := newPair(t)
		for _, o := range wrong(3) {
			if p.emit(o) {
				t.Fatalf("Emit(%+v) is true", o)
			}
		}
		expect(t, p.l)
		if !p.emit(fine(3, turn)) {
			t.Fatalf("%+v is refused behind some that may not be", fine(3, turn))
		}
		expect(t, p.l, fine(3, turn))
	}
}

// P11.2: the chapter's example.
func TestExample(t *testing.T) {
	l := New()
	first := api.Out{Id: 1, Kind: api.Success, Val: 4, At: 2}
	second := api.Out{Id: 1, Kind: api.Failed, Cause: api.Timeout, At: 9}
	if !l.Emit(first) || l.Emit(second) {
		t.Error("the first is refused, or the second isn't")
	}
	expect(t, l, first)
}

// P11.2: Of a command without an outcome, among others that have one, and one whose outcome has zeros in all fields that may be zero.
func TestOf(t *testing.T) {
	least := api.Out{Kind: api.Success}
	for _, outs := range [][]api.Out{nil, {least}, some(4), append(some(4), least), {least, fine(1, 3)}} {
		l := emitted(t, outs...)
		for _, id := range append(codes(), 7, 14, 21, 28, 35) {
			o, ok := l.Of(id)
			if want, there := (&model{outs}).of(id); o != want || ok != there {
				t.Errorf("Of(%d) = %+v, %t of %+v", id, o, ok, outs)
			}
		}
	}
}

// P11.2: Since, at each place of logs of each short length, and at numbers far from it.
func TestSince(t *testing.T) {
	for count := range 10 {
		outs := some(count)
		l := emitted(t, outs...)
		for n := range count + 1 {
			if got := l.Since(n); !slices.Equal(got, outs[n:]) {
				t.Errorf("Since(%d) of %d = %+v", n, count, got)
			}
		}
		for _, n := range []int{math.MinInt, math.MinInt + 1, math.MinInt32, -1 << 32, -count - 1, -2, -1} {
			if got := l.Since(n); !slices.Equal(got, outs) {
				t.Errorf("Since(%d) of %d = %+v", n, count, got)
			}
		}
		for _, n := range []int{count, count + 1, count + 2, 2*count + 1, 1 << 32, 1<<32 + 1, math.MaxInt32, math.MaxInt - 1, math.MaxInt} {
			if got := l.Since(n); len(got) != 0 {
				t.Errorf("Since(%d) of %d = %+v", n, count, got)
			}
		}
	}
}

// P11.2, R4: All hangs on no order of a map: it is as emitted, asked again and again.
func TestAllIsAsEmitted(t *testing.T) {
	outs := some(40)
	l := emitted(t, outs...)
	for range 200 {
		if got := l.All(); !slices.Equal(got, outs) {
			t.Fatalf("All() = %+v", got)
		}
	}
}

// spoil changes all of a list that was told, and what may stand behind its end.
func spoil(told []api.Out) {
	junk := api.Out{Id: -9, Kind: -9, Cause: -9, Val: -9, At: 9}
	for place := range told {
		told[place] = junk
	}
	told = append(told, junk)
	for place := range told[:cap(told)] {
		told[:cap(told)][place] = junk
	}
}

// P11.2, P11.3, R3: what was told is the caller's own: changed, or appended to, it changes neither the log nor what was told ahead of it; nor does the log change it, emitted to.
func TestToldIsTheCallersOwn(t *testing.T) {
	for count := range 20 { // so many lengths, that some lists have room behind their end and others don't
		outs := some(count + 2)
		l := emitted(t, outs[:count]...)
		for n := range count + 1 {
			ahead, all := l.Since(n), l.All()
			spoil(l.Since(n))
			spoil(l.All())
			spoil(l.Since(-1))
			expect(t, l, outs[:count]...)
			if !slices.Equal(ahead, outs[n:count]) || !slices.Equal(all, outs[:count]) {
				t.Fatalf("what was told is changed: %+v, %+v", ahead, all)
			}
		}
		all, last := l.All(), l.Since(count)
		l.Emit(outs[count])
		spoil(all)
		spoil(last)
		l.Emit(outs[count+1])
		expect(t, l, outs...)
		told := l.All()
		l.Emit(fine(-1, 0))
		if !slices.Equal(told, outs) {
			t.Fatalf("what was told is changed by an Emit: %+v", told)
		}
	}
}

// P11.2, R1: what is asked alone, and what is refused, changes nothing.
func TestAskingChangesNothing(t *testing.T) {
	outs := some(5)
	l := emitted(t, outs...)
	was, places := slices.Clone(l.outs), maps.Clone(l.places)
	for range 3 {
		l.All()
		for _, n := range codes() {
			l.Since(n)
			l.Of(n)
			for _, o := range wrong(n) {
				l.Emit(o)
			}
		}
		for _, o := range outs {
			l.Of(o.Id)
			l.Emit(o)
			l.Emit(fine(o.Id, 1))
		}
	}
	if !slices.Equal(l.outs, was) || !maps.Equal(l.places, places) {
		t.Errorf("asked alone, it is %+v, %v, and was %+v, %v", l.outs, l.places, was, places)
	}
}

// P11.2, P1: a Log that is nil: false, nothing, of every call, also of outcomes that may be.
func TestNil(t *testing.T) {
	var l *Log
	for _, n := range codes() {
		for _, o := range append(wrong(n), some(10)...) {
			o.Id = n
			if l.Emit(o) {
				t.Errorf("Emit(%+v) of one that is nil is true", o)
			}
		}
		if o, ok := l.Of(n); ok || o != (api.Out{}) {
			t.Errorf("Of(%d) of one that is nil: %+v, %t", n, o, ok)
		}
		if told := l.Since(n); len(told) != 0 {
			t.Errorf("Since(%d) of one that is nil: %+v", n, told)
		}
	}
	if told := l.All(); len(told) != 0 {
		t.Errorf("All() of one that is nil: %+v", told)
	}
}

// anyOut is an outcome of chance, of few commands, that may be or may not.
func anyOut(chance *rand.Rand) api.Out {
	id := append(ends(), 2, 3, 4, 5)[chance.Intn(18)]
	switch chance.Intn(4) {
	case 0:
		return wrong(id)[chance.Intn(len(wrong(id)))]
	case 1:
		return api.Out{Id: id, Kind: chance.Intn(7) - 1, Cause: chance.Intn(7) - 1, Val: chance.Intn(3) - 1, At: chance.Uint64()}
	}
	return fine(id, chance.Intn(100))
}

// P11.3, P3: in each begin of the log there is one outcome of each command at most, and it is one that may be; each log that was is a begin of those that come.
func TestOneOutcomeAtMost(t *testing.T) {
	for seed := range int64(200) {
		chance := rand.New(rand.NewSource(seed))
		l := New()
		var was []api.Out
		for range 60 {
			l.Emit(anyOut(chance))
			all := l.All()
			if len(all) < len(was) || len(all) > len(was)+1 || !slices.Equal(all[:len(was)], was) {
				t.Fatalf("seed %d: %+v doesn't begin with %+v", seed, all, was)
			}
			seen := map[int]int{}
			for _, o := range all {
				seen[o.Id]++
				if told, ok := l.Of(o.Id); seen[o.Id] > 1 || !may(o) || told != o || !ok {
					t.Fatalf("seed %d: %+v is emitted %d times, and Of tells %+v", seed, o, seen[o.Id], told)
				}
			}
			was = all
		}
	}
}

// P11.2, P11.3, P2: all ways to emit five of seven outcomes, of two commands, some of which may not be.
func TestAllShortWays(t *testing.T) {
	outs := []api.Out{
		{Id: 1, Kind: api.Success, Val: 4, At: 1}, {Id: 1, Kind: api.Failed, Cause: api.Short, At: 2}, {Id: 1, Kind: api.Failed, Cause: api.Short, Val: 2},
		{Id: 2, Kind: api.Hit, At: 3}, {Id: 2, Kind: api.Fall, Cause: api.Error, Val: 5}, {Id: 2, Kind: api.Hit, Cause: api.Error}, {},
	}
	ways := 1
	for range 5 {
		ways *= len(outs)
	}
	for way := range ways {
		p := newPair(t)
		for range 5 {
			p.emit(outs[way%len(outs)])
			way /= len(outs)
			p.lookAt(0)
			p.lookAt(1)
			p.lookAt(2)
		}
	}
}

// P11.1 to P11.3, P2: whatever is emitted, a log is as the chapter's words have it.
func TestAsTheModel(t *testing.T) {
	for seed := range int64(200) {
		chance := rand.New(rand.NewSource(seed))
		p := newPair(t)
		for range 100 {
			o := anyOut(chance)
			if May(o) != may(o) {
				t.Fatalf("seed %d: May(%+v) = %t", seed, o, May(o))
			}
			p.emit(o)
			p.lookAt(anyOut(chance).Id)
			p.lookSince(chance.Intn(25) - 3)
		}
	}
}

// R4: a log plays no part at another one.
func TestLogsAreApart(t *testing.T) {
	outs := some(6)
	a, b := emitted(t, outs[:3]...), emitted(t, outs[:3]...)
	a.Emit(outs[3])
	b.Emit(outs[4])
	b.Emit(outs[5])
	expect(t, a, outs[0], outs[1], outs[2], outs[3])
	expect(t, b, outs[0], outs[1], outs[2], outs[4], outs[5])
	expect(t, New())
	if _, ok := a.Of(outs[4].Id); ok {
		t.Error("one has the other one's outcome")
	}
}
