package call

import (
	"math"
	"math/rand"
	"slices"
	"testing"

	"porpoise/api"
	"porpoise/batch"
)

// spoiled is what a caller writes over all that it reaches.
const spoiled = -777

// ends are numbers at their worst, as a state, a step, a cause, a kind and a chain.
func ends() []int {
	return []int{
		math.MinInt, math.MinInt + 1, math.MinInt + 2, math.MinInt32, -256, -2, -1, 0, 1, 2, 3, 4, 5, 6, 255, 256, 257,
		math.MaxInt32, 1 << 32, 1<<32 + 1, 1<<32 + 2, 1<<32 + 3, math.MaxInt - 2, math.MaxInt - 1, math.MaxInt,
	}
}

// times are numbers at their worst.
func times() []uint64 {
	return []uint64{0, 1, 2, 1<<32 - 1, 1 << 32, 1 << 40, 1<<63 - 1, 1 << 63, math.MaxUint64 - 1, math.MaxUint64}
}

// batches are right ones and wrong ones: without members, nil and empty, of members without a place, of arguments nobody wants.
func batches() []batch.Batch {
	return []batch.Batch{
		{},
		{Args: []int{}, Members: []batch.Member{}},
		{Args: []int{5}},
		{Args: []int{5, 7}},
		{Members: members(1, 0)},
		{Members: members(1, -1, 2, 0)},
		made(5),
		made(5, 7),
		made(5, 7, 5),
		made(5, 5, 5, 5),
		made(1, 2, 3, 4),
		{Args: []int{5, 7}, Members: members(1, 0, 2, 2)},
		{Args: []int{5, 7}, Members: members(1, -1, 2, 1)},
		{Args: []int{5, 7}, Members: members(3, 1, 3, 1, 3, 0)},
		{Args: []int{5, 5}, Members: members(0, 1, -4, 0)},
		{Args: []int{math.MinInt, math.MaxInt}, Members: members(math.MaxInt, 1, math.MinInt, 0)},
		{Args: []int{5}, Members: members(1, math.MaxInt, 2, math.MinInt)},
	}
}

// members are commands by their ids and places, two numbers each.
func members(l ...int) []batch.Member {
	var ms []batch.Member
	for pair := range slices.Chunk(l, 2) {
		ms = append(ms, batch.Member{Id: pair[0], At: pair[1]})
	}
	return ms
}

// made is a batch of the commands 1, 2, 3 .., who want some arguments in turn.
func made(args ...int) batch.Batch {
	var b batch.Batch
	for place, arg := range args {
		at := slices.Index(b.Args, arg)
		if at < 0 {
			at = len(b.Args)
			b.Args = append(b.Args, arg)
		}
		b.Members = append(b.Members, batch.Member{Id: place + 1, At: at})
	}
	return b
}

// roomy is a batch alike, whose lists have room behind their lengths.
func roomy(b batch.Batch, room int) batch.Batch {
	args := make([]int, len(b.Args), len(b.Args)+room)
	ms := make([]batch.Member, len(b.Members), len(b.Members)+room)
	copy(args, b.Args)
	copy(ms, b.Members)
	return batch.Batch{Args: args, Members: ms}
}

// spoil writes over all that a caller reaches by a batch, also behind its lengths.
func spoil(b batch.Batch) {
	for place := range b.Args[:cap(b.Args)] {
		b.Args[:cap(b.Args)][place] = spoiled
	}
	for place := range b.Members[:cap(b.Members)] {
		b.Members[:cap(b.Members)][place] = batch.Member{Id: spoiled, At: spoiled}
	}
}

// alike tells whether two calls are; nil and empty lists are (R2).
func alike(a, b Call) bool {
	return slices.Equal(a.B.Args, b.B.Args) && slices.Equal(a.B.Members, b.B.Members) &&
		a.State == b.State && a.Step == b.Step && a.Cause == b.Cause && a.Start == b.Start
}

// copied is a call alike that shares nothing with it.
func copied(c Call) Call {
	c.B = roomy(c.B, 0)
	return c
}

// with is a call alike, of another state, step and cause.
func with(c Call, state, step, cause int) Call {
	c.State, c.Step, c.Cause = state, step, cause
	return c
}

// change is one of the calls that answer a call, and what it should answer.
type change struct {
	name string
	do   func(Call) (Call, bool)
	want func(Call) (Call, bool)
}

func runs() change {
	return change{"Run", Run, func(c Call) (Call, bool) {
		if c.State == 1 {
			return with(c, 2, c.Step, c.Cause), true
		}
		return c, false
	}}
}

func finishes() change {
	return change{"End", End, func(c Call) (Call, bool) {
		if c.State == 1 || c.State == 2 || c.State == 3 {
			return with(c, 4, c.Step, c.Cause), true
		}
		return c, false
	}}
}

func fails(cause, chain int) change {
	return change{"Fail", func(c Call) (Call, bool) { return Fail(c, cause, chain) }, func(c Call) (Call, bool) {
		told := c.Cause
		if c.State == 1 || c.State == 2 {
			told = cause
		} else if c.State != 3 {
			return c, false
		}
		if chain > c.Step {
			return with(c, 3, c.Step+1, told), true
		}
		return with(c, 4, c.Step, told), false
	}}
}

// does holds what is answered against what should be, that what was handed in stays as it was, and that the two share nothing.
func does(t *testing.T, h change, c Call) (Call, bool) {
	t.Helper()
	was := copied(c)
	want, wantOk := h.want(was)
	got, ok := h.do(c)
	if ok != wantOk || !alike(got, want) {
		t.Fatalf("%s of %+v = %+v, %t, want %+v, %t", h.name, was, got, ok, want, wantOk)
	}
	kept := copied(got)
	spoil(got.B)
	if !alike(c, was) {
		t.Fatalf("by %s, and by what was told, %+v became %+v", h.name, was, c)
	}
	return kept, ok
}

// becomes is does, where the answer is written out.
func becomes(t *testing.T, h change, c, want Call, wantOk bool) Call {
	t.Helper()
	got, ok := does(t, h, c)
	if ok != wantOk || !alike(got, want) {
		t.Fatalf("%s of %+v = %+v, %t, want %+v, %t", h.name, c, got, ok, want, wantOk)
	}
	return got
}

// modelOuts is P15.3's words: the value of each member first, if it has one.
func modelOuts(c Call, kind int, vals []int, now uint64) []api.Out {
	var outs []api.Out
	for _, m := range c.B.Members {
		o := api.Out{Id: m.Id, Kind: kind, At: now}
		if kind == 3 || kind == 4 {
			o.Cause = c.Cause
		}
		if kind == 1 || kind == 3 {
			if len(vals) != len(c.B.Args) || m.At < 0 || m.At >= len(c.B.Args) {
				return nil
			}
			o.Val = vals[m.At]
		}
		outs = append(outs, o)
	}
	if kind != 1 && kind != 3 && kind != 4 {
		return nil
	}
	return outs
}

// tells holds outcomes against what they should be, that what was handed in stays as it was, and that nothing is shared.
func tells(t *testing.T, c Call, kind int, vals []int, now uint64, want []api.Out) {
	t.Helper()
	was, wasVals := copied(c), append([]int(nil), vals...)
	got := Outs(c, kind, vals, now)
	if !slices.Equal(got, want) {
		t.Fatalf("Outs(%+v, %d, %v, %d) = %+v, want %+v", was, kind, wasVals, now, got, want)
	}
	for place := range got[:cap(got)] {
		got[:cap(got)][place] = api.Out{Id: spoiled, Kind: spoiled, Cause: spoiled, Val: spoiled}
	}
	if !alike(c, was) || !slices.Equal(vals, wasVals) {
		t.Fatalf("by Outs(.., %d, .., %d) %+v, %v became %+v, %v", kind, now, was, wasVals, c, vals)
	}
	if again := Outs(c, kind, vals, now); !slices.Equal(again, want) {
		t.Fatalf("Outs(%+v, %d, %v, %d) = %+v when asked again, want %+v", was, kind, wasVals, now, again, want)
	}
}

func tellsAsModel(t *testing.T, c Call, kind int, vals []int, now uint64) {
	t.Helper()
	tells(t, c, kind, vals, now, modelOuts(c, kind, vals, now))
}

// count is so many values, each of its own.
func count(n int) []int {
	vals := make([]int, n)
	for place := range vals {
		vals[place] = 50 + place
	}
	return vals
}

// The chapter's example: of a chain of one: failed, it falls back; failed again, it is over.
func TestTheExample(t *testing.T) {
	begun := Call{B: made(7), State: Waiting, Start: 3}
	ran := becomes(t, runs(), begun, with(begun, Running, 0, 0), true)
	fell := becomes(t, fails(api.Error, 1), ran, with(begun, Falling, 1, api.Error), true)
	over := becomes(t, fails(api.Error, 1), fell, with(begun, Over, 1, api.Error), false)
	tells(t, over, api.Failed, nil, 9, []api.Out{{Id: 1, Kind: api.Failed, Cause: api.Error, At: 9}})
}

// The chapter's constants, which have no type of their own.
func TestConstants(t *testing.T) {
	states := [4]uint8{Waiting, Running, Falling, Over} // does not compile, if they have a type
	if states != [4]uint8{1, 2, 3, 4} {
		t.Errorf("states: %v", states)
	}
}

// P15.1: what begins is of its batch, waits, has no step and no cause, and its start is now.
func TestBegin(t *testing.T) {
	for _, b := range batches() {
		for _, now := range times() {
			for room := range 3 {
				handed := roomy(b, room)
				want := Call{B: b, State: 1, Start: now}
				c := Begin(handed, now)
				if !alike(c, want) {
					t.Fatalf("Begin(%+v, %d) = %+v", b, now, c)
				}
				spoil(handed)
				if !alike(c, want) {
					t.Fatalf("by what was handed in Begin(%+v, %d) became %+v", b, now, c)
				}
				handed = roomy(b, room)
				c = Begin(handed, now)
				spoil(c.B)
				if !slices.Equal(handed.Args, b.Args) || !slices.Equal(handed.Members, b.Members) {
					t.Fatalf("by what Begin told %+v became %+v", b, handed)
				}
			}
		}
	}
}

// P15.1: what waits runs; what runs, falls back or is over doesn't, and stays as it is.
func TestRun(t *testing.T) {
	for _, b := range batches() {
		c := Call{B: b, State: 1, Step: 2, Cause: 3, Start: 40}
		becomes(t, runs(), c, with(c, 2, 2, 3), true)
		for _, state := range ends() {
			if state != 1 {
				c.State = state
				becomes(t, runs(), c, c, false)
			}
		}
	}
}

// P15.1: what waits, runs or falls back is over; what is over already, or in no state, isn't, and stays as it is.
func TestEnd(t *testing.T) {
	for _, b := range batches() {
		c := Call{B: b, Step: 2, Cause: 3, Start: 40}
		for state := 1; state <= 3; state++ {
			c.State = state
			becomes(t, finishes(), c, with(c, 4, 2, 3), true)
		}
		for _, state := range ends() {
			if state < 1 || state > 3 {
				c.State = state
				becomes(t, finishes(), c, c, false)
			}
		}
	}
}

// P15.1: no step, cause and start plays a part, and each of them stays.
func TestRunAndEndAtAllNumbers(t *testing.T) {
	for _, state := range ends() {
		for _, step := range ends() {
			for _, cause := range ends() {
				for _, start := range times() {
					c := Call{B: made(5, 7), State: state, Step: step, Cause: cause, Start: start}
					does(t, runs(), c)
					does(t, finishes(), c)
				}
			}
		}
	}
}

// P15.2: what waits, or runs, is told its cause; and by its step, and the chain, falls back or is over.
func TestFailTellsTheCause(t *testing.T) {
	for _, state := range []int{Waiting, Running} {
		for _, cause := range ends() {
			for _, was := range ends() {
				c := Call{B: made(5, 7, 5), State: state, Cause: was, Start: 8}
				becomes(t, fails(cause, 1), c, with(c, Falling, 1, cause), true)
				becomes(t, fails(cause, 0), c, with(c, Over, 0, cause), false)
			}
		}
	}
}

// P15.2: what falls back keeps the cause of its first failure, while it falls back and when it is over.
func TestFailKeepsTheCause(t *testing.T) {
	for _, cause := range ends() {
		for _, was := range ends() {
			c := Call{B: made(5, 7, 5), State: Falling, Step: 1, Cause: was, Start: 8}
			becomes(t, fails(cause, 2), c, with(c, Falling, 2, was), true)
			becomes(t, fails(cause, 1), c, with(c, Over, 1, was), false)
		}
	}
}

// P15.2: a step below the chain falls back; at the chain's length and above it, it is over.
func TestFailAtTheChainsLength(t *testing.T) {
	for _, state := range []int{Waiting, Running, Falling} {
		for _, b := range batches() {
			for _, chain := range ends() {
				at := Call{B: b, State: state, Step: chain, Cause: 7, Start: 8}
				becomes(t, fails(7, chain), at, with(at, Over, chain, 7), false)
				if chain > math.MinInt {
					below := with(at, state, chain-1, 7)
					becomes(t, fails(7, chain), below, with(at, Falling, chain, 7), true)
				}
				if chain < math.MaxInt {
					above := with(at, state, chain+1, 7)
					becomes(t, fails(7, chain), above, with(at, Over, chain+1, 7), false)
				}
				greatest := with(at, state, math.MaxInt, 7)
				becomes(t, fails(7, chain), greatest, with(at, Over, math.MaxInt, 7), false)
			}
		}
	}
}

// P15.2: what is over, or in no state, isn't told a cause, doesn't fall back, and stays as it is.
func TestFailOfAnotherState(t *testing.T) {
	for _, state := range ends() {
		if state >= 1 && state <= 3 {
			continue
		}
		for _, step := range ends() {
			for _, chain := range ends() {
				c := Call{B: made(5, 7), State: state, Step: step, Cause: 9, Start: 8}
				becomes(t, fails(2, chain), c, c, false)
			}
		}
	}
}

// P15.2, P1: all numbers as a state, a step, a cause and a chain.
func TestFailAtAllNumbers(t *testing.T) {
	for _, state := range ends() {
		for _, step := range ends() {
			for _, chain := range ends() {
				for _, cause := range []int{math.MinInt, -1, 0, 1, 4, 5, math.MaxInt} {
					does(t, fails(cause, chain), Call{B: made(5), State: state, Step: step, Cause: 3, Start: 8})
				}
			}
		}
	}
}

// P15.3: of each kind, of one member and of many, each in turn, with its own value where it has one.
func TestOuts(t *testing.T) {
	one := Call{B: batch.One(4, 9), State: Running, Cause: api.Timeout, Start: 3}
	tells(t, one, api.Success, []int{70}, 8, []api.Out{{Id: 4, Kind: 1, Val: 70, At: 8}})
	tells(t, one, api.Fall, []int{70}, 8, []api.Out{{Id: 4, Kind: 3, Cause: 2, Val: 70, At: 8}})
	tells(t, one, api.Failed, []int{70}, 8, []api.Out{{Id: 4, Kind: 4, Cause: 2, At: 8}})
	many := Call{B: batch.Batch{Args: []int{5, 7}, Members: members(9, 1, 2, 0, 6, 1)}, State: Falling, Step: 1, Cause: api.Short}
	tells(t, many, api.Success, []int{50, 70}, 8, []api.Out{
		{Id: 9, Kind: 1, Val: 70, At: 8}, {Id: 2, Kind: 1, Val: 50, At: 8}, {Id: 6, Kind: 1, Val: 70, At: 8},
	})
	tells(t, many, api.Fall, []int{50, 70}, 8, []api.Out{
		{Id: 9, Kind: 3, Cause: 4, Val: 70, At: 8}, {Id: 2, Kind: 3, Cause: 4, Val: 50, At: 8}, {Id: 6, Kind: 3, Cause: 4, Val: 70, At: 8},
	})
	tells(t, many, api.Failed, []int{50, 70}, 8, []api.Out{
		{Id: 9, Kind: 4, Cause: 4, At: 8}, {Id: 2, Kind: 4, Cause: 4, At: 8}, {Id: 6, Kind: 4, Cause: 4, At: 8},
	})
}

// P15.3: of a hit, and of what is no kind, nothing, of all batches and values.
func TestOutsOfAnotherKind(t *testing.T) {
	for _, kind := range append(ends(), 7, 8, -3, -4, 1<<32+4, math.MinInt+3, math.MinInt+4) {
		if kind == api.Success || kind == api.Fall || kind == api.Failed {
			continue
		}
		for _, b := range batches() {
			c := Call{B: b, State: Running, Cause: 2}
			tells(t, c, kind, count(len(b.Args)), 8, nil)
			tells(t, c, kind, nil, 8, nil)
		}
	}
}

// P15.3: values that are too few, or too many: nothing; api.Failed wants none, and is told whatever they are.
func TestOutsOfWrongValues(t *testing.T) {
	for _, b := range batches() {
		for state := 0; state <= 5; state++ {
			c := Call{B: b, State: state, Cause: 3}
			var failed []api.Out
			for _, m := range b.Members {
				failed = append(failed, api.Out{Id: m.Id, Kind: 4, Cause: 3, At: 8})
			}
			for n := range len(b.Args) + 4 {
				tells(t, c, api.Failed, count(n), 8, failed)
				if n != len(b.Args) {
					tells(t, c, api.Success, count(n), 8, nil)
					tells(t, c, api.Fall, count(n), 8, nil)
				}
			}
		}
	}
}

// P15.3: members without a place of an argument: nothing of all of them, but of api.Failed.
func TestOutsWithoutAPlace(t *testing.T) {
	for _, at := range append(ends(), -5) {
		if at >= 0 && at < 2 {
			continue
		}
		for place := range 3 {
			b := batch.Batch{Args: []int{5, 7}, Members: members(1, 0, 2, 1, 3, 0)}
			b.Members[place].At = at
			c := Call{B: b, State: Running, Cause: 1}
			tells(t, c, api.Success, []int{50, 70}, 8, nil)
			tells(t, c, api.Fall, []int{50, 70}, 8, nil)
			tells(t, c, api.Failed, []int{50, 70}, 8, []api.Out{
				{Id: 1, Kind: 4, Cause: 1, At: 8}, {Id: 2, Kind: 4, Cause: 1, At: 8}, {Id: 3, Kind: 4, Cause: 1, At: 8},
			})
		}
	}
}

// P15.3: no state and no step plays a part; ids, causes, values and times are told as they are.
func TestOutsAtAllNumbers(t *testing.T) {
	kinds := []int{api.Success, api.Hit, api.Fall, api.Failed}
	for _, x := range ends() {
		for _, y := range ends() {
			b := batch.Batch{Args: []int{y, 7}, Members: members(x, 1, y, 0)}
			c := Call{B: b, State: x, Step: y, Cause: y, Start: 5}
			for _, kind := range append(kinds, x) {
				for _, now := range times() {
					tellsAsModel(t, c, kind, []int{x, y}, now)
				}
			}
		}
	}
	for _, kind := range kinds {
		var want []api.Out
		if kind != api.Hit {
			want = []api.Out{{Id: math.MaxInt, Kind: kind, Cause: math.MinInt, Val: math.MinInt, At: math.MaxUint64}}
		}
		for place := range want {
			if kind == api.Success {
				want[place].Cause = 0
			}
			if kind == api.Failed {
				want[place].Val = 0
			}
		}
		c := Call{B: batch.One(math.MaxInt, 5), State: Falling, Cause: math.MinInt}
		tells(t, c, kind, []int{math.MinInt}, math.MaxUint64, want)
	}
}

// P15.3: without members nothing is told, of any kind, also of api.Failed.
func TestOutsWithoutMembers(t *testing.T) {
	for _, kind := range ends() {
		for n := range 4 {
			tells(t, Call{B: batch.Batch{Args: []int{5, 7}}, State: Running, Cause: 2}, kind, count(n), 8, nil)
			tells(t, Call{State: Running, Cause: 2}, kind, count(n), 8, nil)
			tells(t, Call{}, kind, count(n), 8, nil)
		}
	}
}

// P15.4: from its begin on, waiting or running first, it fails as often as the chain is long with true, and once more with false; then it is over, and told no more; its cause is that of its first failure.
func TestFailsAsOftenAsTheChain(t *testing.T) {
	for _, chain := range []int{math.MinInt, -1000, -1, 0, 1, 2, 3, 4, 10, 100} {
		for _, run := range []bool{false, true} {
			for _, first := range ends() {
				c := Begin(made(5, 7, 5), 6)
				if run {
					c, _ = does(t, runs(), c)
				}
				for turn := range max(chain, 0) {
					more, ok := does(t, fails(first+turn, chain), c)
					if !ok || more.State != Falling || more.Step != turn+1 || more.Cause != first {
						t.Fatalf("chain %d, failure %d: %+v, %t", chain, turn, more, ok)
					}
					c = more
					becomes(t, runs(), c, c, false) // it runs no more
				}
				over, ok := does(t, fails(first+max(chain, 0), chain), c)
				if ok || over.State != Over || over.Step != max(chain, 0) || over.Cause != first {
					t.Fatalf("chain %d, the last failure: %+v, %t", chain, over, ok)
				}
				for _, h := range []change{runs(), finishes(), fails(1, chain), fails(2, chain+1), fails(3, math.MaxInt)} {
					becomes(t, h, over, over, false)
				}
				tells(t, over, api.Failed, nil, 8, []api.Out{
					{Id: 1, Kind: 4, Cause: first, At: 8}, {Id: 2, Kind: 4, Cause: first, At: 8}, {Id: 3, Kind: 4, Cause: first, At: 8},
				})
			}
		}
	}
}

// P15.4: a chain that is longer, or shorter, at each failure: the step that is reached is held against the one that is told.
func TestFailsOfChainsThatChange(t *testing.T) {
	c := Begin(made(5), 6)
	c = becomes(t, fails(api.Timeout, 1), c, with(c, Falling, 1, api.Timeout), true)
	c = becomes(t, fails(api.Error, 5), c, with(c, Falling, 2, api.Timeout), true)
	c = becomes(t, fails(api.Error, 3), c, with(c, Falling, 3, api.Timeout), true)
	becomes(t, fails(api.Error, 2), c, with(c, Over, 3, api.Timeout), false)
	becomes(t, fails(api.Error, 3), c, with(c, Over, 3, api.Timeout), false)
	becomes(t, fails(api.Error, 4), c, with(c, Falling, 4, api.Timeout), true)
}

// P15.1 to P15.3: lives of calls, of one member and of many: it ends while it waits, while it runs, and at each step of its fallbacks.
func TestLives(t *testing.T) {
	for _, b := range []batch.Batch{made(5), made(5, 7), made(5, 7, 5), made(4, 3, 2, 1, 1, 2)} {
		vals := count(len(b.Args))
		c := Begin(b, 3)
		becomes(t, finishes(), c, Call{B: b, State: 4, Start: 3}, true)
		c = becomes(t, runs(), c, Call{B: b, State: 2, Start: 3}, true)
		becomes(t, runs(), c, c, false)
		over := becomes(t, finishes(), c, Call{B: b, State: 4, Start: 3}, true)
		for place, o := range Outs(over, api.Success, vals, 9) {
			if want := (api.Out{Id: place + 1, Kind: 1, Val: vals[b.Members[place].At], At: 9}); o != want {
				t.Fatalf("success of %+v: %+v, want %+v", b, o, want)
			}
		}
		for step := 1; step <= api.MaxChain; step++ {
			c, _ = Fail(c, step+1, api.MaxChain) // the causes of all but the first one are not to be seen
			over := becomes(t, finishes(), c, Call{B: b, State: 4, Step: step, Cause: api.Timeout, Start: 3}, true)
			outs := Outs(over, api.Fall, vals, 9)
			if len(outs) != len(b.Members) {
				t.Fatalf("%d outcomes of %+v", len(outs), b)
			}
			for place, o := range outs {
				want := api.Out{Id: place + 1, Kind: 3, Cause: api.Timeout, Val: vals[b.Members[place].At], At: 9}
				if o != want {
					t.Fatalf("fallback %d of %+v: %+v, want %+v", step, b, o, want)
				}
			}
		}
	}
}

// R3: what was handed in may be changed afterwards, and what was told stays; calls that were made one of the other share nothing.
func TestNothingIsShared(t *testing.T) {
	for _, h := range []change{runs(), finishes(), fails(2, 0), fails(2, 2)} {
		for state := -1; state <= 6; state++ {
			for _, b := range batches() {
				for room := range 3 {
					handed := Call{B: roomy(b, room), State: state, Step: 1, Cause: 4, Start: 8}
					want, _ := h.want(copied(handed))
					first, _ := h.do(handed)
					second, _ := h.do(handed)
					spoil(handed.B)
					if !alike(first, want) || !alike(second, want) {
						t.Fatalf("by what was handed to %s, %+v and %+v, want %+v", h.name, first, second, want)
					}
					spoil(first.B)
					if !alike(second, want) {
						t.Fatalf("by the first one %s told, the second one is %+v, want %+v", h.name, second, want)
					}
				}
			}
		}
	}
}

// R3: outcomes are the caller's own: what was handed in may be changed afterwards.
func TestOutcomesAreTheCallersOwn(t *testing.T) {
	for _, kind := range []int{api.Success, api.Fall, api.Failed} {
		c, vals := Call{B: made(5, 7, 5), State: Running, Cause: 2}, []int{50, 70}
		want := modelOuts(c, kind, vals, 8)
		first, second := Outs(c, kind, vals, 8), Outs(c, kind, vals, 8)
		spoil(c.B)
		vals[0], vals[1] = spoiled, spoiled
		for place := range first[:cap(first)] {
			first[:cap(first)][place] = api.Out{Id: spoiled}
		}
		if len(want) != 3 || !slices.Equal(second, want) {
			t.Fatalf("kind %d became %+v, want %+v", kind, second, want)
		}
	}
}

// R2: a call whose batch is nil in its slices, and one whose batch is empty in them, and values that are nil and empty, are the same to every call.
func TestNilAndEmpty(t *testing.T) {
	none, empty := batch.Batch{}, batch.Batch{Args: []int{}, Members: []batch.Member{}}
	if a, b := Begin(none, 5), Begin(empty, 5); !alike(a, b) || !alike(a, Call{State: 1, Start: 5}) {
		t.Fatalf("Begin: %+v of nil, %+v of empty", a, b)
	}
	for _, state := range ends() {
		for _, h := range []change{runs(), finishes(), fails(2, 0), fails(2, 1)} {
			a, okA := does(t, h, Call{B: none, State: state})
			b, okB := does(t, h, Call{B: empty, State: state})
			if okA != okB || !alike(a, b) {
				t.Fatalf("%s: %+v, %t of nil, %+v, %t of empty", h.name, a, okA, b, okB)
			}
		}
	}
	for _, b := range []batch.Batch{none, empty, {Members: members(1, 0)}, {Args: []int{5}, Members: members(1, 0)}} {
		for _, kind := range ends() {
			nils, empties := Outs(Call{B: b, Cause: 2}, kind, nil, 8), Outs(Call{B: b, Cause: 2}, kind, []int{}, 8)
			if !slices.Equal(nils, empties) {
				t.Fatalf("Outs(%+v, %d): %+v of nil, %+v of empty", b, kind, nils, empties)
			}
			tells(t, Call{B: b, Cause: 2}, kind, nil, 8, nils)
		}
	}
}

// R4: nothing is kept from call to call: asked again, with others between, the answer is the same.
func TestNothingIsKept(t *testing.T) {
	for range 3 {
		for _, a := range batches() {
			for _, b := range batches() {
				for state := 0; state <= 5; state++ {
					for _, h := range []change{runs(), finishes(), fails(2, 0), fails(3, 2)} {
						does(t, h, Call{B: a, State: state, Step: 1, Cause: 4})
						does(t, h, Call{B: b, State: 5 - state, Cause: 1})
					}
					tellsAsModel(t, Call{B: a, State: state, Cause: 4}, api.Fall, count(len(a.Args)), 8)
					tellsAsModel(t, Call{B: b, State: state, Cause: 1}, api.Failed, nil, 9)
				}
			}
		}
	}
}

// P15.1, P15.2, P15.4: all ways of seven changes, of each chain; along each, so many failures were let fall back as the chain says, at most.
func TestAllShortWays(t *testing.T) {
	for chain := -1; chain <= 4; chain++ {
		hows := []change{runs(), finishes(), fails(api.Error, chain), fails(api.Timeout, chain)}
		var from func(c Call, depth, fell, cause int)
		from = func(c Call, depth, fell, cause int) {
			if c.Step != fell || fell > max(chain, 0) || c.Cause != cause {
				t.Fatalf("chain %d: %d fallbacks for %d, and it is %+v", chain, fell, cause, c)
			}
			if depth == 7 {
				return
			}
			for place, h := range hows {
				more, ok := does(t, h, c)
				fellMore, causeMore := fell, cause
				if place >= 2 && ok {
					fellMore++
				}
				// The first failure of all is that at which it didn't fall back yet, and wasn't over.
				if place >= 2 && fell == 0 && c.State != Over {
					causeMore = place - 1
				}
				from(more, depth+1, fellMore, causeMore)
			}
		}
		from(Begin(made(5, 7), 4), 0, 0, 0)
	}
}

// anyNumber is a small number mostly, and at times one at its worst.
func anyNumber(chance *rand.Rand) int {
	if chance.Intn(6) == 0 {
		return ends()[chance.Intn(len(ends()))]
	}
	return chance.Intn(7) - 1
}

func anyBatch(chance *rand.Rand) batch.Batch {
	if chance.Intn(2) == 0 {
		var args []int
		for range chance.Intn(7) {
			args = append(args, chance.Intn(4))
		}
		return roomy(made(args...), chance.Intn(3))
	}
	var b batch.Batch
	for range chance.Intn(5) {
		b.Args = append(b.Args, anyNumber(chance))
	}
	for range chance.Intn(5) {
		b.Members = append(b.Members, batch.Member{Id: anyNumber(chance), At: anyNumber(chance)})
	}
	return roomy(b, chance.Intn(3))
}

// P15.1 to P15.3, P1: calls of chance, right and wrong ones, as the chapter's words have it.
func TestAsTheModel(t *testing.T) {
	for seed := range int64(3000) {
		chance := rand.New(rand.NewSource(seed))
		c := Begin(anyBatch(chance), uint64(seed))
		for range 30 {
			switch chance.Intn(7) {
			case 0:
				c, _ = does(t, runs(), c)
			case 1:
				c, _ = does(t, finishes(), c)
			case 2, 3:
				c, _ = does(t, fails(anyNumber(chance), anyNumber(chance)), c)
			case 4, 5:
				vals := count(max(0, len(c.B.Args)+chance.Intn(5)/3-chance.Intn(4)/3))
				tellsAsModel(t, c, anyNumber(chance), vals, times()[chance.Intn(len(times()))])
			default:
				c = Call{B: anyBatch(chance), State: anyNumber(chance), Step: anyNumber(chance), Cause: anyNumber(chance)}
			}
		}
	}
}

// P7: each member of a batch that was made of many commands is told its own value, in turn, once, by an answer and by a fallback.
func TestEachIsToldItsOwn(t *testing.T) {
	for seed := range int64(300) {
		chance := rand.New(rand.NewSource(seed))
		wants := map[int]int{}
		first := chance.Intn(9)
		b := batch.One(500, first)
		wants[500] = first
		for id := 501; id < 540; id++ {
			arg := chance.Intn(9)
			if more, ok := batch.Add(b, id, arg, 1+chance.Intn(8)); ok {
				b, wants[id] = more, arg
			}
		}
		vals := make([]int, len(b.Args))
		for place, arg := range b.Args {
			vals[place] = 1000 + arg
		}
		c, _ := Run(Begin(b, 4))
		fell, _ := Fail(c, api.Timeout, 2)
		successes, falls, failures := Outs(c, api.Success, vals, 9), Outs(fell, api.Fall, vals, 9), Outs(fell, api.Failed, nil, 9)
		if len(successes) != len(wants) || len(falls) != len(wants) || len(failures) != len(wants) {
			t.Fatalf("seed %d: %d, %d and %d outcomes of %d", seed, len(successes), len(falls), len(failures), len(wants))
		}
		last := 499
		for place, o := range successes {
			arg, there := wants[o.Id]
			if !there || o.Id <= last || o != (api.Out{Id: o.Id, Kind: 1, Val: 1000 + arg, At: 9}) {
				t.Fatalf("seed %d: %+v, that wants %d, behind %d", seed, o, arg, last)
			}
			if falls[place] != (api.Out{Id: o.Id, Kind: 3, Cause: 2, Val: 1000 + arg, At: 9}) {
				t.Fatalf("seed %d: %+v, that wants %d", seed, falls[place], arg)
			}
			if failures[place] != (api.Out{Id: o.Id, Kind: 4, Cause: 2, At: 9}) {
				t.Fatalf("seed %d: %+v", seed, failures[place])
			}
			last = o.Id
		}
	}
}
