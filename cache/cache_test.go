package cache

import (
	"maps"
	"math"
	"math/rand"
	"slices"
	"testing"

	"porpoise/api"
)

// model is the chapter's words, over lists that are looked through.
type model struct {
	keys  []modelKey
	joins []modelJoin
}

// modelKey is a key that is there; told holds one Told, or none.
type modelKey struct {
	key  Key
	lead int
	told []Told
}

type modelJoin struct{ who, whom int }

func (m *model) ask(k Key, id int) (int, Told) {
	if k.Scope == 0 {
		return Lead, Told{}
	}
	for _, one := range m.keys {
		if one.key.Scope != k.Scope || one.key.Dep != k.Dep || one.key.Arg != k.Arg {
			continue
		}
		if len(one.told) > 0 {
			return Know, one.told[0]
		}
		m.joins = append(m.joins, modelJoin{id, one.lead})
		return Join, Told{}
	}
	m.keys = append(m.keys, modelKey{key: k, lead: id})
	return Lead, Told{}
}

func (m *model) settle(id int, t Told) []int {
	for place := range m.keys {
		if m.keys[place].lead == id {
			m.keys[place].told = []Told{t}
		}
	}
	var who []int
	var others []modelJoin
	for _, j := range m.joins {
		if j.whom == id {
			who = append(who, j.who)
		} else {
			others = append(others, j)
		}
	}
	m.joins = others
	return who
}

func (m *model) close(scope int) int {
	var others []modelKey
	for _, one := range m.keys {
		if one.key.Scope != scope {
			others = append(others, one)
		}
	}
	closed := len(m.keys) - len(others)
	m.keys = others
	return closed
}

// pair is a cache, and what it should be.
type pair struct {
	t *testing.T
	c *Cache
	m *model
}

func newPair(t *testing.T) pair {
	t.Helper()
	p := pair{t, New(), &model{}}
	if p.c == nil {
		t.Fatal("New() is nil")
	}
	p.look()
	return p
}

func (p pair) look() {
	p.t.Helper()
	if got, want := p.c.Len(), len(p.m.keys); got != want {
		p.t.Fatalf("Len() = %d, want %d of %+v", got, want, p.m.keys)
	}
}

func (p pair) ask(k Key, id int) int {
	p.t.Helper()
	how, told := p.c.Ask(k, id)
	if wantHow, want := p.m.ask(k, id); how != wantHow || told != want {
		p.t.Fatalf("Ask(%+v, %d) = %d, %+v, want %d, %+v", k, id, how, told, wantHow, want)
	}
	p.look()
	return how
}

func (p pair) settle(id int, t Told) []int {
	p.t.Helper()
	got, want := p.c.Settle(id, t), p.m.settle(id, t)
	if !slices.Equal(got, want) {
		p.t.Fatalf("Settle(%d, %+v) = %v, want %v", id, t, got, want)
	}
	p.look()
	return got
}

func (p pair) close(scope int) int {
	p.t.Helper()
	got, want := p.c.Close(scope), p.m.close(scope)
	if got != want {
		p.t.Fatalf("Close(%d) = %d, want %d", scope, got, want)
	}
	p.look()
	return got
}

// end asks for each key that there is, settles all ids, and asks again: what isn't told otherwise is to be seen then.
func (p pair) end(ids ...int) {
	p.t.Helper()
	keys := slices.Clone(p.m.keys)
	for place, one := range keys {
		p.ask(one.key, 10000+place)
	}
	for place, id := range ids {
		p.settle(id, Told{Kind: api.Success, Val: place + 50})
	}
	for _, one := range keys {
		p.ask(one.key, 20000)
	}
}

// asks holds what Ask tells against what it should.
func asks(t *testing.T, c *Cache, k Key, id, how int, told Told) {
	t.Helper()
	gotHow, got := c.Ask(k, id)
	if gotHow != how || got != told {
		t.Fatalf("Ask(%+v, %d) = %d, %+v, want %d, %+v", k, id, gotHow, got, how, told)
	}
}

func leads(t *testing.T, c *Cache, k Key, id int) {
	t.Helper()
	asks(t, c, k, id, Lead, Told{})
}

func joins(t *testing.T, c *Cache, k Key, id int) {
	t.Helper()
	asks(t, c, k, id, Join, Told{})
}

func knows(t *testing.T, c *Cache, k Key, id int, told Told) {
	t.Helper()
	asks(t, c, k, id, Know, told)
}

func settles(t *testing.T, c *Cache, id int, told Told, who ...int) {
	t.Helper()
	if got := c.Settle(id, told); !slices.Equal(got, who) {
		t.Fatalf("Settle(%d, %+v) = %v, want %v", id, told, got, who)
	}
}

func closes(t *testing.T, c *Cache, scope, count int) {
	t.Helper()
	if got := c.Close(scope); got != count {
		t.Fatalf("Close(%d) = %d, want %d", scope, got, count)
	}
}

func has(t *testing.T, c *Cache, count int) {
	t.Helper()
	if got := c.Len(); got != count {
		t.Fatalf("Len() = %d, want %d", got, count)
	}
}

// ends are numbers at their worst; some are alike, if all but their last bits are lost.
func ends() []int {
	return []int{math.MinInt, math.MinInt + 1, math.MinInt32, -1 << 32, -256, -2, -1, 0, 1, 2, 256, 257, 1 << 32, 1<<32 + 1, math.MaxInt32, math.MaxInt - 1, math.MaxInt}
}

// tolds are what may be told: outcomes, and others that are none.
func tolds() []Told {
	return []Told{
		{},
		{Kind: api.Success, Val: 7},
		{Kind: api.Fall, Cause: api.Short, Val: -7},
		{Kind: api.Failed, Cause: api.Timeout},
		{Val: 1}, {Cause: 1}, {Kind: 1},
		{Kind: math.MinInt, Cause: math.MaxInt, Val: math.MinInt},
		{Kind: -1, Cause: -1, Val: math.MaxInt},
	}
}

// some are keys of three scopes, so many of each.
func some(count int) []Key {
	var keys []Key
	for turn := range count {
		for scope := 1; scope <= 3; scope++ {
			keys = append(keys, Key{Scope: scope, Dep: turn % 2, Arg: turn / 2})
		}
	}
	return keys
}

var fine = Told{Kind: api.Success, Val: 7}

// P12.1: New, with nothing: no key, nobody that leads, nobody that joined.
func TestNew(t *testing.T) {
	c := New()
	if c == nil {
		t.Fatal("New() is nil")
	}
	has(t, c, 0)
	for _, n := range ends() {
		closes(t, c, n, 0)
		settles(t, c, n, fine)
		closes(t, c, n, 0)
	}
	has(t, c, 0)
	leads(t, c, Key{Scope: 1}, 1)
}

// P12.1: the numbers that are told, as the chapter has them.
func TestConstants(t *testing.T) {
	if Lead != 1 || Join != 2 || Know != 3 {
		t.Errorf("Lead, Join, Know = %d, %d, %d", Lead, Join, Know)
	}
}

// P12.1, P12.2: the chapter's example.
func TestExample(t *testing.T) {
	c := New()
	k := Key{Scope: 2, Dep: 1, Arg: 7}
	leads(t, c, k, 1)
	joins(t, c, k, 2)
	settles(t, c, 1, Told{Kind: api.Success, Val: 7}, 2)
	knows(t, c, k, 3, Told{Kind: api.Success, Val: 7})
}

// P12.1: the scope 0 always leads and changes nothing: asked twice, settled, closed, by itself and beside keys of scopes.
func TestScopeZero(t *testing.T) {
	c := New()
	for range 2 {
		for _, dep := range ends() {
			for _, arg := range ends() {
				k := Key{Dep: dep, Arg: arg}
				leads(t, c, k, 1)
				leads(t, c, k, 1)
				leads(t, c, k, 2)
				has(t, c, 0)
			}
		}
		settles(t, c, 1, fine)
		settles(t, c, 2, fine)
		leads(t, c, Key{Dep: 1, Arg: 7}, 3)
		closes(t, c, 0, 0)
	}
	k := Key{Scope: 1, Dep: 1, Arg: 7}
	leads(t, c, k, 1)
	leads(t, c, Key{Dep: 1, Arg: 7}, 1)
	leads(t, c, Key{Dep: 1, Arg: 7}, 2)
	has(t, c, 1)
	closes(t, c, 0, 0)
	has(t, c, 1)
	joins(t, c, k, 3)
	settles(t, c, 1, fine, 3)
	leads(t, c, Key{Dep: 1, Arg: 7}, 4)
	knows(t, c, k, 4, fine)
}

// P12.1: a key that is there and wasn't told is joined, however often; once it was told, it is known, however often, and nobody joins.
func TestAskOfToldAndUntold(t *testing.T) {
	for _, told := range tolds() {
		c := New()
		k, other := Key{Scope: 1, Dep: 0, Arg: 7}, Key{Scope: 1, Dep: 0, Arg: 8}
		leads(t, c, k, 1)
		leads(t, c, other, 2)
		for id := 3; id < 6; id++ {
			joins(t, c, k, id)
		}
		settles(t, c, 1, told, 3, 4, 5)
		for id := 6; id < 9; id++ {
			knows(t, c, k, id, told)
			joins(t, c, other, id)
		}
		settles(t, c, 1, told)
		settles(t, c, 2, told, 6, 7, 8)
		has(t, c, 2)
	}
}

// P12.1: Told is zero but with Know, also where other keys, and this one ahead of a close, were told; and what was told may be zero.
func TestToldIsZeroButWithKnow(t *testing.T) {
	c := New()
	k, zero := Key{Scope: 1, Arg: 1}, Key{Scope: 2, Arg: 1}
	leads(t, c, k, 1)
	leads(t, c, zero, 2)
	joins(t, c, zero, 3)
	settles(t, c, 1, Told{Kind: 4, Cause: 2, Val: 9})
	joins(t, c, zero, 4)
	settles(t, c, 2, Told{}, 3, 4)
	knows(t, c, zero, 5, Told{})
	knows(t, c, zero, 5, Told{})
	knows(t, c, k, 5, Told{Kind: 4, Cause: 2, Val: 9})
	closes(t, c, 1, 1)
	leads(t, c, k, 6)
	joins(t, c, k, 7)
	leads(t, c, Key{Arg: 1}, 8)
}

// P12.2: one id that leads several keys, of one scope and of several, settled once: all of them are told, and no key of another one.
func TestSettleOfSeveralKeys(t *testing.T) {
	for count := range 12 {
		c := New()
		keys := some(count)
		for place, k := range keys {
			leads(t, c, k, 1+place%2)
		}
		settles(t, c, 1, fine)
		for place, k := range keys {
			if place%2 == 0 {
				knows(t, c, k, 3, fine)
			} else {
				joins(t, c, k, 100+place)
			}
		}
		has(t, c, len(keys))
	}
}

// P12.2: a key that one leads later isn't told what it was told ahead of that.
func TestLeadBehindSettle(t *testing.T) {
	c := New()
	a, b := Key{Scope: 1, Arg: 1}, Key{Scope: 1, Arg: 2}
	leads(t, c, a, 1)
	settles(t, c, 1, fine)
	leads(t, c, b, 1)
	joins(t, c, b, 2)
	knows(t, c, a, 2, fine)
	settles(t, c, 1, Told{Kind: 3, Cause: 1, Val: 4}, 2)
	knows(t, c, b, 3, Told{Kind: 3, Cause: 1, Val: 4})
}

// P12.2: who joined, in turn, not rising: of many, by one key and by several, and told once only.
func TestJoinedInTurn(t *testing.T) {
	for seed := range int64(20) {
		c := New()
		keys := some(3)
		for _, k := range keys {
			leads(t, c, k, -5)
		}
		who := rand.New(rand.NewSource(seed)).Perm(100)
		for turn, id := range who {
			joins(t, c, keys[turn*7%len(keys)], id)
		}
		settles(t, c, -5, fine, who...)
		settles(t, c, -5, fine)
	}
}

// P12.2: who joined the same one twice, by one key or by several, is told twice; each Ask that told Join counts.
func TestJoinedTwice(t *testing.T) {
	c := New()
	a, b := Key{Scope: 1, Arg: 1}, Key{Scope: 2, Arg: 1}
	leads(t, c, a, 1)
	leads(t, c, b, 1)
	joins(t, c, a, 2)
	joins(t, c, a, 2)
	joins(t, c, a, 3)
	joins(t, c, b, 2)
	settles(t, c, 1, fine, 2, 2, 3, 2)
	settles(t, c, 1, fine)
}

// P12.1, P12.3: who leads and asks again joins itself, as who asks later does.
func TestJoinsItself(t *testing.T) {
	c := New()
	k := Key{Scope: 1, Arg: 1}
	leads(t, c, k, 1)
	joins(t, c, k, 1)
	joins(t, c, k, 2)
	settles(t, c, 1, fine, 1, 2)
	knows(t, c, k, 1, fine)
}

// P12.2: who joined several that lead is told by each; one that leads and joined another one stays joined when it settles.
func TestJoinedSeveral(t *testing.T) {
	c := New()
	a, b := Key{Scope: 1, Arg: 1}, Key{Scope: 1, Arg: 2}
	leads(t, c, a, 1)
	leads(t, c, b, 2)
	joins(t, c, a, 3)
	joins(t, c, b, 3)
	joins(t, c, b, 1)
	settles(t, c, 1, fine, 3)
	joins(t, c, b, 4)
	settles(t, c, 2, fine, 3, 1, 4)
}

// P12.2: Settle of an id that leads nothing tells nobody and changes nothing: one that wasn't there, that joined, that asked in no scope.
func TestSettleOfNobody(t *testing.T) {
	c := New()
	k := Key{Scope: 1, Arg: 1}
	leads(t, c, k, 5)
	joins(t, c, k, 6)
	leads(t, c, Key{}, 7)
	for _, id := range append(ends(), 6, 7) {
		settles(t, c, id, fine)
		has(t, c, 1)
	}
	joins(t, c, k, 8)
	settles(t, c, 5, fine, 6, 8)
}

// P12.2: settled twice: the keys that it leads are told what it is told then, and nobody is joined any more.
func TestSettleTwice(t *testing.T) {
	for _, first := range tolds() {
		for _, second := range tolds() {
			c := New()
			k, other := Key{Scope: 1, Arg: 1}, Key{Scope: 1, Arg: 2}
			leads(t, c, k, 1)
			leads(t, c, other, 2)
			joins(t, c, k, 3)
			settles(t, c, 1, first, 3)
			settles(t, c, 2, first)
			settles(t, c, 1, second)
			knows(t, c, k, 4, second)
			knows(t, c, other, 4, first)
			has(t, c, 2)
		}
	}
}

// P12.2: Close of a scope with keys that were told and keys that weren't: how many there were, those of other scopes stay, and closed again there are none.
func TestClose(t *testing.T) {
	for count := range 12 {
		for scope := 1; scope <= 3; scope++ {
			c := New()
			keys := some(count)
			for place, k := range keys {
				leads(t, c, k, place)
				if place%4 < 2 {
					settles(t, c, place, Told{Val: place})
				}
			}
			closes(t, c, 0, 0)
			closes(t, c, 4, 0)
			closes(t, c, -scope, 0)
			closes(t, c, scope, count)
			has(t, c, 2*count)
			closes(t, c, scope, 0)
			has(t, c, 2*count)
			for place, k := range keys {
				switch {
				case k.Scope == scope:
					leads(t, c, k, 1000+place)
				case place%4 < 2:
					knows(t, c, k, 1000, Told{Val: place})
				default:
					joins(t, c, k, 1000)
				}
			}
			has(t, c, 3*count)
			closes(t, c, scope, count)
		}
	}
}

// P12.2: who joined one that leads stays joined when its scope is closed, in its turn, and ahead of who joins it by other keys.
func TestStaysJoinedBehindClose(t *testing.T) {
	c := New()
	k, far := Key{Scope: 1, Arg: 1}, Key{Scope: 2, Arg: 1}
	leads(t, c, k, 1)
	leads(t, c, far, 1)
	joins(t, c, far, 2)
	joins(t, c, k, 3)
	closes(t, c, 1, 1)
	joins(t, c, far, 4)
	closes(t, c, 2, 1)
	has(t, c, 0)
	settles(t, c, 1, fine, 2, 3, 4)
	settles(t, c, 1, fine)
	has(t, c, 0)
	leads(t, c, k, 5)
}

// P12.2: a key that is asked anew behind a close is led anew: who led it ahead of that tells it nothing, and each has its own who joined.
func TestAskedAnewBehindClose(t *testing.T) {
	c := New()
	k := Key{Scope: 1, Arg: 1}
	leads(t, c, k, 1)
	joins(t, c, k, 2)
	closes(t, c, 1, 1)
	leads(t, c, k, 3)
	joins(t, c, k, 4)
	has(t, c, 1)
	settles(t, c, 1, fine, 2)
	joins(t, c, k, 5)
	settles(t, c, 3, Told{Kind: 4, Cause: 1}, 4, 5)
	knows(t, c, k, 6, Told{Kind: 4, Cause: 1})
	settles(t, c, 1, fine)
	knows(t, c, k, 6, Told{Kind: 4, Cause: 1})
}

// P12.2: the same one leads a key anew: who joined it ahead of the close is ahead of who joins it behind that, too.
func TestLeadsAnewBehindClose(t *testing.T) {
	c := New()
	k := Key{Scope: 1, Arg: 1}
	leads(t, c, k, 1)
	joins(t, c, k, 2)
	closes(t, c, 1, 1)
	leads(t, c, k, 1)
	joins(t, c, k, 3)
	settles(t, c, 1, fine, 2, 3)
	knows(t, c, k, 4, fine)
	closes(t, c, 1, 1)
	leads(t, c, k, 1)
	joins(t, c, k, 5)
	settles(t, c, 1, Told{}, 5)
}

// P12.2: Len, behind each of the calls.
func TestLen(t *testing.T) {
	c := New()
	for place, k := range some(300) {
		has(t, c, place)
		leads(t, c, k, 1)
		has(t, c, place+1)
		joins(t, c, k, 2)
		leads(t, c, Key{Dep: k.Dep, Arg: k.Arg}, 1)
		has(t, c, place+1)
	}
	c.Settle(1, fine)
	has(t, c, 900)
	for _, k := range some(300) {
		knows(t, c, k, 3, fine)
	}
	has(t, c, 900)
	closes(t, c, 2, 300)
	has(t, c, 600)
	closes(t, c, 1, 300)
	closes(t, c, 3, 300)
	has(t, c, 0)
}

// P12.1, P12.2, P1: a Cache that is nil: Lead, nobody, 0, of every call, also one behind another.
func TestNil(t *testing.T) {
	var c *Cache
	for range 2 {
		for _, n := range ends() {
			for _, told := range tolds() {
				leads(t, c, Key{Scope: n, Dep: n, Arg: n}, n)
				leads(t, c, Key{Scope: 1, Dep: n, Arg: 7}, 1)
				settles(t, c, n, told)
				closes(t, c, n, 0)
				has(t, c, 0)
			}
		}
	}
}

// P12.1, P12.3, P1: any number is a scope (0 is none), a dependency and an argument: keys that are unlike in one of them, or have them in another turn, are apart.
func TestKeysAreApart(t *testing.T) {
	c := New()
	var keys []Key
	for _, scope := range ends() {
		for _, dep := range ends() {
			for _, arg := range ends() {
				if scope != 0 {
					keys = append(keys, Key{Scope: scope, Dep: dep, Arg: arg})
				}
			}
		}
	}
	for place, k := range keys {
		leads(t, c, k, place)
	}
	has(t, c, len(keys))
	for place, k := range keys {
		joins(t, c, k, -place)
	}
	for place := range 40 {
		settles(t, c, place*97, Told{Val: place}, -place*97)
	}
	for place, k := range keys {
		if place%97 == 0 && place/97 < 40 {
			knows(t, c, k, 1, Told{Val: place / 97})
		} else {
			joins(t, c, k, 1)
		}
	}
	each := len(ends()) * len(ends())
	for place, scope := range slices.DeleteFunc(ends(), func(n int) bool { return n == 0 }) {
		closes(t, c, scope, each)
		has(t, c, len(keys)-(place+1)*each)
	}
}

// P12.1, P12.2, P1: any number is an id, that leads and that joins.
func TestAnyId(t *testing.T) {
	for _, lead := range ends() {
		c := New()
		k := Key{Scope: 1, Dep: 2, Arg: 3}
		leads(t, c, k, lead)
		for _, id := range ends() {
			joins(t, c, k, id)
		}
		for _, id := range ends() {
			if id != lead {
				settles(t, c, id, fine)
			}
		}
		joins(t, c, k, 5)
		settles(t, c, lead, fine, append(ends(), 5)...)
		knows(t, c, k, lead, fine)
	}
}

// spoil changes all of a list that was told, and what may stand behind its end.
func spoil(told []int) {
	whole := append(told, -9)
	whole = whole[:cap(whole)]
	for place := range whole {
		whole[place] = -9
	}
	for place := range told[:cap(told)] {
		told[:cap(told)][place] = -9
	}
}

// P12.2, R3: what Settle told is the caller's own: changed, or appended to, it changes neither the cache nor what was told ahead of it; nor does the cache change it.
func TestToldIsTheCallersOwn(t *testing.T) {
	for count := range 20 { // so many lengths, that some lists have room behind their end and others don't
		c := New()
		a, b := Key{Scope: 1, Arg: 1}, Key{Scope: 1, Arg: 2}
		leads(t, c, a, 1)
		leads(t, c, b, 2)
		var want []int
		for id := range count {
			joins(t, c, a, 10+id)
			joins(t, c, b, 10+id)
			want = append(want, 10+id)
		}
		first := c.Settle(1, fine)
		if !slices.Equal(first, want) {
			t.Fatalf("who joined: %v, want %v", first, want)
		}
		kept := slices.Clone(first)
		closes(t, c, 1, 2)
		leads(t, c, a, 1)
		for id := range count {
			joins(t, c, a, 50+id)
		}
		if !slices.Equal(first, kept) {
			t.Fatalf("what was told is changed by who joins: %v", first)
		}
		spoil(first)
		second := c.Settle(1, fine)
		for place, id := range second {
			if id != 50+place {
				t.Fatalf("who joined behind the close: %v", second)
			}
		}
		was := slices.Clone(second)
		spoil(first)
		third := c.Settle(2, fine)
		if !slices.Equal(third, want) || !slices.Equal(second, was) || len(second) != count {
			t.Fatalf("changed by the caller: %v, %v", third, second)
		}
		spoil(third)
		if !slices.Equal(second, was) {
			t.Fatalf("what was told ahead of it is changed: %v", second)
		}
		knows(t, c, a, 3, fine)
	}
}

// standing is all that a cache keeps.
func standing(c *Cache) (map[Key]entry, map[int][]int) {
	keys, joined := map[Key]entry{}, map[int][]int{}
	for k, e := range c.keys {
		keys[k] = *e
	}
	for id, who := range c.joined {
		joined[id] = slices.Clone(who)
	}
	return keys, joined
}

// P12.1, P12.2: what is asked of the scope 0, what is known, who leads nothing, a scope without keys, and Len change nothing.
func TestAskingChangesNothing(t *testing.T) {
	c := New()
	for place, k := range some(4) {
		leads(t, c, k, place%3)
		joins(t, c, k, 20+place)
	}
	c.Settle(2, fine)
	keys, joined := standing(c)
	for range 3 {
		for _, n := range ends() {
			c.Ask(Key{Dep: n, Arg: n}, n)
			c.Ask(Key{Dep: 1}, 1)
			c.Len()
			c.Close(0)
			c.Close(n - 100)
			c.Settle(n-100, Told{Val: 3})
			for place, k := range some(4) {
				if place%3 == 2 {
					knows(t, c, k, n, fine)
				}
			}
		}
	}
	nowKeys, nowJoined := standing(c)
	if !maps.Equal(nowKeys, keys) || !maps.EqualFunc(nowJoined, joined, slices.Equal) {
		t.Errorf("asked alone, it is %v, %v, and was %v, %v", nowKeys, nowJoined, keys, joined)
	}
}

// Nothing is kept that no promise needs: neither keys of closed scopes, nor those who were told.
func TestNothingIsKept(t *testing.T) {
	c := New()
	for round := range 50 {
		for place, k := range some(4) {
			leads(t, c, k, round*100+place)
			joins(t, c, k, place)
		}
		for place := range some(4) {
			settles(t, c, round*100+place, fine, place)
		}
		for scope := 1; scope <= 3; scope++ {
			closes(t, c, scope, 4)
		}
	}
	if len(c.keys) != 0 || len(c.joined) != 0 {
		t.Errorf("kept: %v, %v", c.keys, c.joined)
	}
}

// R4: nothing hangs on the order of a map: the same is told, again and again.
func TestOrderOfTheMap(t *testing.T) {
	for range 100 {
		p := newPair(t)
		for place, k := range some(12) {
			p.ask(k, place%5)
			p.ask(k, 40-place)
		}
		p.close(2)
		for id := range 5 {
			p.settle(id, Told{Val: id})
		}
		p.end(0, 1, 2, 3, 4)
	}
}

// R4: a cache plays no part at another one.
func TestCachesAreApart(t *testing.T) {
	a, b := New(), New()
	k := Key{Scope: 1, Arg: 1}
	leads(t, a, k, 1)
	leads(t, b, k, 1)
	joins(t, a, k, 2)
	settles(t, b, 1, fine)
	knows(t, b, k, 3, fine)
	joins(t, a, k, 3)
	closes(t, b, 1, 1)
	has(t, a, 1)
	settles(t, a, 1, Told{}, 2, 3)
	has(t, b, 0)
}

// step is a call of a cache.
type step func(p pair)

// P12.1 to P12.3, P2: all ways of six calls, of two ids, two scopes and none, with all that is to be seen asked at their end.
func TestAllShortWays(t *testing.T) {
	a, b := Key{Scope: 1, Arg: 1}, Key{Scope: 2, Arg: 1}
	steps := []step{
		func(p pair) { p.ask(a, 1) },
		func(p pair) { p.ask(a, 2) },
		func(p pair) { p.ask(b, 1) },
		func(p pair) { p.ask(b, 2) },
		func(p pair) { p.ask(Key{Arg: 1}, 1) },
		func(p pair) { p.settle(1, Told{Val: 8}) },
		func(p pair) { p.settle(2, Told{}) },
		func(p pair) { p.close(1) },
	}
	ways := 1
	for range 6 {
		ways *= len(steps)
	}
	for way := range ways {
		p := newPair(t)
		for range 6 {
			steps[way%len(steps)](p)
			way /= len(steps)
		}
		p.end(1, 2)
	}
}

// anyNumber is one of few numbers, some at their worst, so that many calls meet.
func anyNumber(chance *rand.Rand) int {
	if chance.Intn(4) == 0 {
		return ends()[chance.Intn(len(ends()))]
	}
	return chance.Intn(4)
}

// P12.1 to P12.3, P2: whatever is asked, settled and closed, a cache is as the chapter's words have it.
func TestAsTheModel(t *testing.T) {
	for seed := range int64(300) {
		chance := rand.New(rand.NewSource(seed))
		p := newPair(t)
		for range 200 {
			switch chance.Intn(20) {
			case 0, 1:
				p.close(anyNumber(chance))
			case 2, 3, 4:
				p.settle(anyNumber(chance), tolds()[chance.Intn(len(tolds()))])
			default:
				p.ask(Key{anyNumber(chance), anyNumber(chance), anyNumber(chance)}, anyNumber(chance))
			}
		}
		p.end(ends()...)
	}
}

// once is what P12.3 says of one key: who leads it, and what it was told.
type once struct {
	lead  int
	known bool
	told  Told
}

// P12.3, P7: of each key one leads, till its scope is closed; who asks later joins that one, and is told by it, or is told what it was told. Each id is of one command, that asks once and is settled once.
func TestOneLeadsAKey(t *testing.T) {
	for seed := range int64(100) {
		chance := rand.New(rand.NewSource(seed))
		c, there, waits := New(), map[Key]once{}, map[int][]int{}
		var open []int
		for id := range 300 {
			k := Key{1 + chance.Intn(3), chance.Intn(2), chance.Intn(3)}
			how, told := c.Ask(k, id)
			is, known := there[k]
			switch {
			case !known && how == Lead && told == (Told{}):
				there[k] = once{lead: id}
				open = append(open, id)
			case known && is.known && how == Know && told == is.told:
			case known && !is.known && how == Join && told == (Told{}):
				waits[is.lead] = append(waits[is.lead], id)
			default:
				t.Fatalf("seed %d: Ask(%+v, %d) = %d, %+v of %+v, %t", seed, k, id, how, told, is, known)
			}
			if len(open) > 0 && chance.Intn(4) == 0 {
				place := chance.Intn(len(open))
				lead := open[place]
				open = slices.Delete(open, place, place+1)
				settles(t, c, lead, Told{Val: id}, waits[lead]...)
				for k, is := range there {
					if is.lead == lead {
						there[k] = once{lead, true, Told{Val: id}}
					}
				}
			}
			if chance.Intn(20) == 0 {
				scope := chance.Intn(4)
				was := len(there)
				maps.DeleteFunc(there, func(k Key, _ once) bool { return k.Scope == scope })
				closes(t, c, scope, was-len(there))
			}
			has(t, c, len(there))
		}
	}
}
