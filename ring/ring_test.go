package ring

import (
	"math"
	"math/rand"
	"slices"
	"testing"

	"porpoise/api"
)

// model is the chapter's words, over a list of the numbers.
type model struct {
	most    int
	numbers []int
}

func (m *model) push(x int) bool {
	if len(m.numbers) >= m.most {
		return false
	}
	m.numbers = append(m.numbers, x)
	return true
}

func (m *model) pop() (int, bool) {
	if len(m.numbers) == 0 {
		return 0, false
	}
	x := m.numbers[0]
	m.numbers = slices.Delete(m.numbers, 0, 1)
	return x, true
}

func (m *model) remove(x int) bool {
	i := slices.Index(m.numbers, x)
	if i >= 0 {
		m.numbers = slices.Delete(m.numbers, i, i+1)
	}
	return i >= 0
}

// pair is a ring, and what it should be.
type pair struct {
	t *testing.T
	r *Ring
	m *model
}

func newPair(t *testing.T, most int) pair {
	t.Helper()
	p := pair{t, New(most), &model{most: most}}
	if p.r == nil {
		t.Fatalf("New(%d) is nil", most)
	}
	p.look()
	return p
}

// look holds all that is told without a change against the model.
func (p pair) look() {
	p.t.Helper()
	if got := p.r.List(); !slices.Equal(got, p.m.numbers) {
		p.t.Fatalf("List() = %v, want %v", got, p.m.numbers)
	}
	if got := p.r.Len(); got != len(p.m.numbers) {
		p.t.Fatalf("Len() = %d, want %d", got, len(p.m.numbers))
	}
	if got, want := p.r.Full(), len(p.m.numbers) == p.m.most; got != want {
		p.t.Fatalf("Full() = %t of %v, want %t", got, p.m.numbers, want)
	}
}

func (p pair) push(x int) {
	p.t.Helper()
	if got, want := p.r.Push(x), p.m.push(x); got != want {
		p.t.Fatalf("Push(%d) = %t, want %t", x, got, want)
	}
	p.look()
}

func (p pair) pop() {
	p.t.Helper()
	got, ok := p.r.Pop()
	if want, is := p.m.pop(); got != want || ok != is {
		p.t.Fatalf("Pop() = %d, %t, want %d, %t", got, ok, want, is)
	}
	p.look()
}

func (p pair) remove(x int) {
	p.t.Helper()
	if got, want := p.r.Remove(x), p.m.remove(x); got != want {
		p.t.Fatalf("Remove(%d) = %t, want %t", x, got, want)
	}
	p.look()
}

// filled is a ring of some numbers, with room for no more than so many.
func filled(t *testing.T, most int, numbers ...int) *Ring {
	t.Helper()
	r := New(most)
	for _, x := range numbers {
		if !r.Push(x) {
			t.Fatalf("a ring of %d has no room for %d", most, x)
		}
	}
	return r
}

// expect holds the numbers of a ring against those that it should have.
func expect(t *testing.T, r *Ring, want ...int) {
	t.Helper()
	if got := r.List(); !slices.Equal(got, want) {
		t.Errorf("List() = %v, want %v", got, want)
	}
	if got := r.Len(); got != len(want) {
		t.Errorf("Len() = %d, want %d", got, len(want))
	}
}

// P4.1: New, of all sizes that may be.
func TestNew(t *testing.T) {
	for most := range api.MaxQueue + 1 {
		r := New(most)
		if r == nil {
			t.Fatalf("New(%d) is nil", most)
		}
		expect(t, r)
		if got, want := r.Full(), most == 0; got != want {
			t.Errorf("New(%d) is full: %t, want %t", most, got, want)
		}
	}
}

// P4.1: New, of sizes that may not be.
func TestNewRefuses(t *testing.T) {
	for _, most := range []int{math.MinInt, math.MinInt32, -100, -2, -1, api.MaxQueue + 1, api.MaxQueue + 2, 100, 1 << 32, 1<<32 + 3, math.MaxInt} {
		if r := New(most); r != nil {
			t.Errorf("New(%d) is a ring", most)
		}
	}
}

// P4.1, P4: Push, till there are as many as there may be, and not one more; who is refused changes nothing.
func TestPush(t *testing.T) {
	for most := range api.MaxQueue + 1 {
		r := New(most)
		var want []int
		for x := range most {
			if r.Full() || !r.Push(10*x) {
				t.Fatalf("a ring of %d has no room for its number %d", most, x)
			}
			want = append(want, 10*x)
			expect(t, r, want...)
		}
		for range 3 {
			if !r.Full() || r.Push(7) {
				t.Errorf("a ring of %d takes one more", most)
			}
			expect(t, r, want...)
		}
	}
}

// P4.1, P4: one that isn't full any more takes as many as were taken from it.
func TestPushAgain(t *testing.T) {
	for most := 1; most <= api.MaxQueue; most++ {
		p := newPair(t, most)
		for x := range most {
			p.push(x)
		}
		for x := range 3 * api.MaxQueue {
			p.pop()
			p.push(100 + x)
			p.push(200 + x)
			p.remove(100 + x)
			p.push(100 + x)
			p.push(300 + x)
		}
	}
}

// P4.1: Pop, of all in turn, and then of an empty one, again and again.
func TestPop(t *testing.T) {
	for most := range api.MaxQueue + 1 {
		r := New(most)
		for x := range most {
			r.Push(most - x)
		}
		for x := range most {
			if got, ok := r.Pop(); got != most-x || !ok {
				t.Errorf("Pop() = %d, %t, want %d, true", got, ok, most-x)
			}
			if r.Len() != most-x-1 || r.Full() {
				t.Errorf("popped, there are %d, full: %t, of %d", r.Len(), r.Full(), most)
			}
		}
		for range 3 {
			if got, ok := r.Pop(); got != 0 || ok {
				t.Errorf("Pop() of an empty one = %d, %t", got, ok)
			}
			expect(t, r)
		}
	}
}

// P4.1: numbers of whatever size, the 0 of an empty one too.
func TestNumbersOfAnySize(t *testing.T) {
	all := []int{0, -1, math.MaxInt, math.MinInt, 0, 1 << 32, -1 << 32, 1000}
	p := newPair(t, len(all))
	for _, x := range all {
		p.push(x)
	}
	for _, x := range all {
		if got, ok := p.r.Pop(); got != x || !ok {
			t.Errorf("Pop() = %d, %t, want %d, true", got, ok, x)
		}
	}
	for _, x := range all {
		q := newPair(t, len(all))
		for _, y := range all {
			q.push(y)
		}
		q.remove(x)
	}
}

// P4.1: the chapter's example.
func TestExample(t *testing.T) {
	r := filled(t, 3, 1, 2, 3)
	if !r.Remove(2) {
		t.Error("2 is not there")
	}
	expect(t, r, 1, 3)
}

// P4.1: Remove, at each place, of a ring that is full and of one that is not.
func TestRemove(t *testing.T) {
	for count := 1; count <= api.MaxQueue; count++ {
		for most := count; most <= api.MaxQueue; most++ {
			for x := range count {
				p := newPair(t, most)
				for y := range count {
					p.push(y)
				}
				p.remove(x)
				p.remove(x)
				p.push(x)
				for range count + 1 {
					p.pop()
				}
			}
		}
	}
}

// P4.1: of numbers that are alike the first one is removed, and that one alone.
func TestRemoveOfAlike(t *testing.T) {
	r := filled(t, 8, 5, 1, 5, 2, 5, 5)
	for _, want := range [][]int{{1, 5, 2, 5, 5}, {1, 2, 5, 5}, {1, 2, 5}, {1, 2}} {
		if !r.Remove(5) {
			t.Fatal("5 is not there")
		}
		expect(t, r, want...)
	}
	if r.Remove(5) {
		t.Error("5 is there still")
	}
	expect(t, r, 1, 2)
}

// P4.1: what isn't there is not removed: what never was, what was popped or removed, and a 0 that only the places without a number hold.
func TestRemoveOfNone(t *testing.T) {
	r := filled(t, 6, 1, 2, 3, 4)
	r.Pop()
	r.Remove(3)
	for _, x := range []int{0, 1, 3, 5, -2, math.MaxInt, math.MinInt} {
		if r.Remove(x) {
			t.Errorf("%d is removed, and isn't there", x)
		}
		expect(t, r, 2, 4)
	}
	for most := range api.MaxQueue + 1 {
		for _, x := range []int{0, 1, -1} {
			if New(most).Remove(x) {
				t.Errorf("%d is removed from an empty ring of %d", x, most)
			}
		}
	}
}

// P4.2: of a ring of none nothing is ever there, and it is full.
func TestRingOfNone(t *testing.T) {
	p := newPair(t, 0)
	for _, x := range []int{0, 1, -1} {
		p.push(x)
		p.pop()
		p.remove(x)
	}
	if !p.r.Full() {
		t.Error("a ring of none has room")
	}
}

// P4.2: Full, just when there are as many as there may be, however they became so many.
func TestFull(t *testing.T) {
	r := New(2)
	steps := []struct {
		name string
		do   func()
		want bool
	}{
		{"one", func() { r.Push(1) }, false},
		{"two", func() { r.Push(1) }, true},
		{"one more", func() { r.Push(1) }, true},
		{"another one removed", func() { r.Remove(2) }, true},
		{"one removed", func() { r.Remove(1) }, false},
		{"two again", func() { r.Push(3) }, true},
		{"one popped", func() { r.Pop() }, false},
		{"none", func() { r.Pop() }, false},
	}
	for _, s := range steps {
		s.do()
		if r.Full() != s.want {
			t.Errorf("%s: full is %t, want %t", s.name, r.Full(), s.want)
		}
	}
}

// P4.2, R3: a list that is told is the caller's own: what is done to it, or appended, plays no part, nor what is done to the ring afterwards.
func TestListIsTheCallersOwn(t *testing.T) {
	r := filled(t, 8, 1, 2, 3)
	first, second := r.List(), r.List()
	first[0] = 9
	first = append(first[:1], 8, 7, 6, 5)
	expect(t, r, 1, 2, 3)
	if !slices.Equal(second, []int{1, 2, 3}) {
		t.Errorf("two lists share what they tell: %v", second)
	}
	r.Push(4)
	r.Pop()
	r.Remove(3)
	if !slices.Equal(second, []int{1, 2, 3}) {
		t.Errorf("a list that was told is %v", second)
	}
	expect(t, r, 2, 4)
}

// P4.2: what is asked alone changes nothing.
func TestAskingChangesNothing(t *testing.T) {
	r := filled(t, 4, 1, 2, 3)
	was := *r
	for range 3 {
		r.List()
		r.Len()
		r.Full()
	}
	if *r != was {
		t.Errorf("asked alone, it is %v, and was %v", *r, was)
	}
}

// P4.2: a Ring that is nil.
func TestNil(t *testing.T) {
	for _, r := range []*Ring{nil, New(-1), New(api.MaxQueue + 1)} {
		for _, x := range []int{0, 1, -1} {
			if r.Push(x) || r.Remove(x) {
				t.Errorf("%d is pushed or removed", x)
			}
		}
		if x, ok := r.Pop(); x != 0 || ok {
			t.Errorf("Pop() = %d, %t", x, ok)
		}
		expect(t, r)
		if !r.Full() {
			t.Error("one that is nil has room")
		}
	}
}

// P4.3: what is pushed is popped, in turn, but what is removed.
func TestPushedIsPoppedButRemoved(t *testing.T) {
	for seed := range int64(300) {
		chance := rand.New(rand.NewSource(seed))
		r := New(1 + chance.Intn(api.MaxQueue))
		var pushed, popped []int
		for next := range 200 { // no two are alike
			switch chance.Intn(4) {
			case 0, 1:
				if r.Push(next) {
					pushed = append(pushed, next)
				}
			case 2:
				if x, ok := r.Pop(); ok {
					popped = append(popped, x)
				}
			case 3:
				x := next - chance.Intn(12)
				if r.Remove(x) {
					pushed = slices.DeleteFunc(pushed, func(y int) bool { return y == x })
				}
			}
		}
		for range r.Len() {
			x, _ := r.Pop()
			popped = append(popped, x)
		}
		if !slices.Equal(popped, pushed) {
			t.Fatalf("seed %d: popped %v, want %v", seed, popped, pushed)
		}
	}
}

// P4.1 to P4.3: all ways to ask a short ring a few times, of two numbers.
func TestAllShortWays(t *testing.T) {
	const asked, kinds = 6, 5
	ways := 1
	for range asked {
		ways *= kinds
	}
	for most := range 4 {
		for way := range ways {
			p := newPair(t, most)
			for range asked {
				p.ask(way%kinds, 0, 1)
				way /= kinds
			}
		}
	}
}

// P4.1 to P4.3, and P4: whatever is asked of a ring of whatever size, it is as the chapter's words have it.
func TestAsTheModel(t *testing.T) {
	for seed := range int64(300) {
		chance := rand.New(rand.NewSource(seed))
		p := newPair(t, chance.Intn(api.MaxQueue+1))
		for range 300 {
			p.ask(chance.Intn(5), chance.Intn(5)-1, chance.Intn(5)-1)
		}
	}
}

// ask is one of the five things that may be done with one of two numbers.
func (p pair) ask(kind, a, b int) {
	p.t.Helper()
	switch kind {
	case 0:
		p.push(a)
	case 1:
		p.push(b)
	case 2:
		p.pop()
	case 3:
		p.remove(a)
	case 4:
		p.remove(b)
	}
}

// R4: a ring plays no part at another one.
func TestRingsAreApart(t *testing.T) {
	a, b := filled(t, 3, 1, 2), filled(t, 3, 1, 2)
	a.Push(3)
	a.Pop()
	a.Remove(2)
	expect(t, a, 3)
	expect(t, b, 1, 2)
	if b.Full() {
		t.Error("the other one is full")
	}
}

// Nothing is kept of numbers that were popped or removed.
func TestNothingIsKept(t *testing.T) {
	r := filled(t, api.MaxQueue, 1, 2, 3, 4, 5, 6, 7, 8)
	for _, x := range []int{8, 1, 4} {
		r.Remove(x)
	}
	for range r.Len() {
		r.Pop()
	}
	if *r != *New(api.MaxQueue) {
		t.Errorf("something is kept: %v", *r)
	}
}
