package batch

import (
	"math"
	"math/rand"
	"slices"
	"testing"
)

// modelAdd is the chapter's words, over lists that are written anew, one by one.
func modelAdd(b Batch, id, arg, most int) (Batch, bool) {
	var now Batch
	for _, a := range b.Args {
		now.Args = append(now.Args, a)
	}
	for _, m := range b.Members {
		now.Members = append(now.Members, m)
	}
	for place, a := range b.Args {
		if a == arg {
			now.Members = append(now.Members, Member{id, place})
			return now, true
		}
	}
	if len(b.Args) < most {
		now.Args = append(now.Args, arg)
		now.Members = append(now.Members, Member{id, len(b.Args)})
		return now, true
	}
	return now, false
}

func modelSplit(b Batch, vals []int) ([]Pair, bool) {
	if len(b.Args) != len(vals) {
		return nil, false
	}
	var pairs []Pair
	for _, m := range b.Members {
		found := false
		for place, val := range vals {
			if place == m.At {
				pairs = append(pairs, Pair{m.Id, val})
				found = true
			}
		}
		if !found {
			return nil, false
		}
	}
	return pairs, true
}

// same tells whether two batches are alike; nil and empty lists are (R2).
func same(a, b Batch) bool {
	return slices.Equal(a.Args, b.Args) && slices.Equal(a.Members, b.Members)
}

func copied(b Batch) Batch {
	return Batch{Args: append([]int(nil), b.Args...), Members: append([]Member(nil), b.Members...)}
}

// whole is a batch with all that its lists have room for.
func whole(b Batch) Batch {
	return Batch{Args: b.Args[:cap(b.Args)], Members: b.Members[:cap(b.Members)]}
}

// Numbers that stand in no other place of these tests.
const behind, spoiled = -777, -888

// roomy is a batch like that one, in new memory, with room behind both lists, where something stands.
func roomy(b Batch, room int) Batch {
	r := copied(b)
	for range room {
		r.Args = append(r.Args, behind)
		r.Members = append(r.Members, Member{behind, behind})
	}
	r.Args, r.Members = r.Args[:len(b.Args)], r.Members[:len(b.Members)]
	return r
}

// spoil writes over all that a caller reaches by a batch, also behind its lengths.
func spoil(b Batch) {
	b = whole(b)
	for place := range b.Args {
		b.Args[place] = spoiled
	}
	for place := range b.Members {
		b.Members[place] = Member{spoiled, spoiled}
	}
}

// adds holds Add against what it should tell, and what was handed in against what it was.
func adds(t *testing.T, b Batch, id, arg, most int, want Batch, wantOk bool) Batch {
	t.Helper()
	was, all := copied(b), copied(whole(b))
	got, ok := Add(b, id, arg, most)
	if !same(got, want) || ok != wantOk {
		t.Fatalf("Add(%+v, %d, %d, %d) = %+v, %t, want %+v, %t", was, id, arg, most, got, ok, want, wantOk)
	}
	if !same(b, was) || !same(whole(b), all) {
		t.Fatalf("Add(%+v, %d, %d, %d) made of what it was handed %+v", all, id, arg, most, whole(b))
	}
	return got
}

// addsAsModel is adds, with the model's answer.
func addsAsModel(t *testing.T, b Batch, id, arg, most int) (Batch, bool) {
	t.Helper()
	want, ok := modelAdd(b, id, arg, most)
	return adds(t, b, id, arg, most, want, ok), ok
}

// splits holds Split against what it should tell, and what was handed in against what it was.
func splits(t *testing.T, b Batch, vals []int, want []Pair, wantOk bool) []Pair {
	t.Helper()
	was, wasVals := copied(whole(b)), slices.Clone(vals)
	got, ok := Split(b, vals)
	if !slices.Equal(got, want) || ok != wantOk {
		t.Fatalf("Split(%+v, %v) = %v, %t, want %v, %t", b, vals, got, ok, want, wantOk)
	}
	if !same(whole(b), was) || !slices.Equal(vals, wasVals) {
		t.Fatalf("Split(%+v, %v) made of what it was handed %+v, %v", was, wasVals, whole(b), vals)
	}
	return got
}

func refuses(t *testing.T, b Batch, vals []int) {
	t.Helper()
	splits(t, b, vals, nil, false)
}

func full(t *testing.T, b Batch, most int, want bool) {
	t.Helper()
	was := copied(b)
	if got := Full(b, most); got != want || !same(b, was) {
		t.Fatalf("Full(%+v, %d) = %t, want %t", b, most, got, want)
	}
}

func leads(t *testing.T, b Batch, want int) {
	t.Helper()
	was := copied(b)
	if got := Lead(b); got != want || !same(b, was) {
		t.Fatalf("Lead(%+v) = %d, want %d", b, got, want)
	}
}

// ends are numbers at their worst; some are alike, if all but their last bits are lost.
func ends() []int {
	return []int{math.MinInt, math.MinInt + 1, math.MinInt32, -1 << 32, -256, -2, -1, 0, 1, 2, 3, 4, 5, 256, 257, 1 << 32, 1<<32 + 1, math.MaxInt32, math.MaxInt - 1, math.MaxInt}
}

// odd are batches that may be handed in: of nothing, of one list alone, and such as Add never makes.
func odd() []Batch {
	return []Batch{
		{},
		{Args: []int{}, Members: []Member{}},
		{Args: []int{3}},
		{Args: []int{3, 4, 5}},
		{Args: []int{0}, Members: []Member{}},
		{Members: []Member{{6, 0}}},
		{Args: []int{}, Members: []Member{{6, 0}, {7, 2}, {0, -1}}},
		{Args: []int{5, 5}, Members: []Member{{1, 1}, {2, 0}}},
		{Args: []int{4, 5, 4, 5}, Members: []Member{{1, 3}, {1, 2}, {1, 0}}},
		{Args: []int{5}, Members: []Member{{1, 0}, {1, 0}, {1, 0}}},
		{Args: []int{5, 6}, Members: []Member{{1, 0}, {2, 1}, {3, 2}}},
		{Args: []int{5, 6}, Members: []Member{{1, -1}, {2, 1}}},
		{Args: []int{math.MinInt, math.MaxInt, -1, 0}, Members: []Member{{math.MaxInt, math.MaxInt}, {math.MinInt, math.MinInt}}},
		{Args: []int{1, 2, 3, 4, 5, 6, 7}, Members: []Member{{9, 6}}},
	}
}

// made is a batch of ids 1, 2, .. that want these arguments in turn, with room for all.
func made(t *testing.T, args ...int) Batch {
	t.Helper()
	b := One(1, args[0])
	for place, arg := range args[1:] {
		more, ok := Add(b, place+2, arg, len(args))
		if !ok {
			t.Fatalf("Add(%+v, %d, %d, %d) is refused", b, place+2, arg, len(args))
		}
		b = more
	}
	return b
}

// P13.1: that argument alone, and id, whose it is, of any numbers.
func TestOne(t *testing.T) {
	for _, id := range ends() {
		for _, arg := range ends() {
			b := One(id, arg)
			if !same(b, Batch{[]int{arg}, []Member{{id, 0}}}) {
				t.Fatalf("One(%d, %d) = %+v", id, arg, b)
			}
			leads(t, b, id)
			splits(t, b, []int{arg / 2}, []Pair{{id, arg / 2}}, true)
		}
	}
}

// P13.1, R3: each One is its caller's own.
func TestOneIsTheCallersOwn(t *testing.T) {
	first := One(1, 5)
	spoil(first)
	second, third := One(1, 5), One(1, 5)
	spoil(second)
	if want := (Batch{[]int{5}, []Member{{1, 0}}}); !same(third, want) {
		t.Fatalf("One(1, 5) = %+v", third)
	}
}

// P13.1, P13.2: the chapter's example: two arguments, three members.
func TestExample(t *testing.T) {
	b := One(1, 5)
	b = adds(t, b, 2, 7, 4, Batch{[]int{5, 7}, []Member{{1, 0}, {2, 1}}}, true)
	b = adds(t, b, 3, 5, 4, Batch{[]int{5, 7}, []Member{{1, 0}, {2, 1}, {3, 0}}}, true)
	splits(t, b, []int{50, 70}, []Pair{{1, 50}, {2, 70}, {3, 50}}, true)
	leads(t, b, 1)
	full(t, b, 2, true)
	full(t, b, 3, false)
}

// P13.1: an argument that isn't there is the last one, as is its member, while there are fewer than most.
func TestAddOfNewArguments(t *testing.T) {
	for most := 1; most <= 20; most++ {
		b := One(100, 0)
		want := Batch{[]int{0}, []Member{{100, 0}}}
		for arg := 1; arg < most; arg++ {
			full(t, b, most, false)
			want.Args = append(want.Args, -3*arg)
			want.Members = append(want.Members, Member{100 - arg, arg})
			b = adds(t, b, 100-arg, -3*arg, most, want, true)
		}
		full(t, b, most, true)
		adds(t, b, 7, 1, most, want, false)
		adds(t, b, 7, -3*most, most, want, false)
	}
}

// P13.1: an argument that is there gives its place, whichever it is, and is not put again; also if the batch is full, and more than full, and of a most of 0 and below.
func TestAddOfArgumentsThatAreThere(t *testing.T) {
	args := []int{9, -4, 0, 33, math.MaxInt}
	b := made(t, args...)
	for place, arg := range args {
		for _, most := range ends() {
			want := copied(b)
			want.Members = append(want.Members, Member{77, place})
			more := adds(t, b, 77, arg, most, want, true)
			want.Members = append(want.Members, Member{78, place})
			adds(t, more, 78, arg, most, want, true)
		}
	}
}

// P13.1: of an argument that stands twice in what was handed in, it is the first place.
func TestAddOfAnArgumentThatIsThereTwice(t *testing.T) {
	for _, one := range []struct {
		args       []int
		arg, place int
	}{
		{[]int{5, 5}, 5, 0},
		{[]int{4, 5, 5}, 5, 1},
		{[]int{4, 5, 6, 5, 4}, 5, 1},
		{[]int{4, 5, 6, 5, 4}, 4, 0},
		{[]int{1, 2, 3, 0, 0, 0}, 0, 3},
		{[]int{7, 7, 7, 7, 7, 7, 7, 7}, 7, 0},
	} {
		for _, most := range []int{math.MinInt, 0, 1, len(one.args), len(one.args) + 1, math.MaxInt} {
			// The last member's place is another one: it plays no part.
			b := Batch{one.args, []Member{{1, len(one.args) - 1}}}
			want := Batch{one.args, []Member{{1, len(one.args) - 1}, {2, one.place}}}
			adds(t, b, 2, one.arg, most, want, true)
		}
	}
}

// P13.1: a batch that is full, or more than full, stays: b, and false.
func TestAddToAFullBatch(t *testing.T) {
	b := made(t, 5, 7, 5, 8)
	for most := -2; most <= 3; most++ {
		for _, arg := range []int{math.MinInt, -5, 0, 6, 9, math.MaxInt} {
			adds(t, b, 9, arg, most, b, false)
		}
	}
	adds(t, b, 9, 6, 4, Batch{[]int{5, 7, 8, 6}, []Member{{1, 0}, {2, 1}, {3, 0}, {4, 2}, {9, 3}}}, true)
}

// P13.1: members play no part in how many arguments there may be: an id may come twice, with the same argument and with others.
func TestAddOfManyMembers(t *testing.T) {
	b := One(1, 5)
	for range 100 {
		b, _ = addsAsModel(t, b, 1, 5, 2)
	}
	b = adds(t, b, 1, 6, 2, Batch{[]int{5, 6}, append(copied(b).Members, Member{1, 1})}, true)
	adds(t, b, 1, 7, 2, b, false)
	if len(b.Members) != 102 {
		t.Fatalf("%d members of %+v", len(b.Members), b)
	}
}

// P13.1: of a most of 0, and below, no argument is put, not even into a batch without any.
func TestAddOfNoMost(t *testing.T) {
	for _, most := range []int{math.MinInt, math.MinInt32, -2, -1, 0} {
		for _, b := range []Batch{{}, {Args: []int{}}, {Members: []Member{{3, 4}}}, {Args: []int{8}}, One(3, 8)} {
			adds(t, b, 1, 5, most, b, false)
			full(t, b, most, true)
		}
	}
}

// P13.1: a batch without arguments, and one without members, takes one more as others do; the place is that of its argument.
func TestAddToABatchOfOneListAlone(t *testing.T) {
	for _, most := range []int{1, 2, math.MaxInt} {
		adds(t, Batch{}, 2, 5, most, One(2, 5), true)
		adds(t, Batch{Args: []int{}, Members: []Member{}}, 2, 5, most, One(2, 5), true)
		adds(t, Batch{Members: []Member{{3, 0}}}, 2, 5, most, Batch{[]int{5}, []Member{{3, 0}, {2, 0}}}, true)
		adds(t, Batch{Args: []int{5}}, 2, 5, most, One(2, 5), true)
	}
	adds(t, Batch{Args: []int{5}}, 2, 6, 2, Batch{[]int{5, 6}, []Member{{2, 1}}}, true)
	adds(t, Batch{Args: []int{5}}, 2, 6, 1, Batch{Args: []int{5}}, false)
}

// P13.1, P1: any number is an id, an argument and a most, of any batch.
func TestAddOfAnyNumbers(t *testing.T) {
	for _, b := range append(odd(), One(1, 5), made(t, 5, 7, 5, math.MinInt)) {
		for _, arg := range ends() {
			for _, most := range ends() {
				for _, id := range []int{math.MinInt, -1, 0, 1, math.MaxInt} {
					addsAsModel(t, b, id, arg, most)
				}
			}
		}
	}
}

// P13.1: which argument is there is told by the whole number.
func TestArgumentsAreApart(t *testing.T) {
	b, args := Batch{}, ends()
	for place, arg := range args {
		want := copied(b)
		want.Args = append(want.Args, arg)
		want.Members = append(want.Members, Member{place, place})
		b = adds(t, b, place, arg, len(args), want, true)
	}
	for place, arg := range args {
		want := copied(b)
		want.Members = append(want.Members, Member{1, place})
		adds(t, b, 1, arg, 0, want, true)
	}
}

// P13.2: whether there are as many arguments as most, or more; members play no part.
func TestFull(t *testing.T) {
	for count := range 12 {
		args := make([]int, count) // they are all alike: each of them counts
		for members := range 5 {
			b := Batch{args, make([]Member, members)}
			for most := -3; most <= 15; most++ {
				full(t, b, most, most <= count)
			}
			for _, most := range ends() {
				full(t, b, most, most <= count)
			}
		}
	}
	full(t, Batch{}, 0, true)
	full(t, Batch{}, 1, false)
	full(t, Batch{}, math.MinInt, true)
	full(t, Batch{}, math.MaxInt, false)
}

// P13.2: of each member, in turn, the value at its place: not by the argument, and not by the id; values may be alike.
func TestSplit(t *testing.T) {
	b := Batch{[]int{5, 7, 9}, []Member{{3, 2}, {1, 0}, {2, 1}, {1, 2}, {3, 2}}}
	splits(t, b, []int{10, 20, 30}, []Pair{{3, 30}, {1, 10}, {2, 20}, {1, 30}, {3, 30}}, true)
	splits(t, b, []int{0, 0, 0}, []Pair{{3, 0}, {1, 0}, {2, 0}, {1, 0}, {3, 0}}, true)
	splits(t, b, []int{math.MinInt, -1, math.MaxInt}, []Pair{{3, math.MaxInt}, {1, math.MinInt}, {2, -1}, {1, math.MaxInt}, {3, math.MaxInt}}, true)
	splits(t, Batch{[]int{5, 5}, []Member{{1, 1}, {2, 0}}}, []int{10, 20}, []Pair{{1, 20}, {2, 10}}, true)
}

// P13.2: as many values as arguments, and neither fewer nor more, also if every member has a place in both.
func TestSplitOfAnotherCount(t *testing.T) {
	for count := range 8 {
		for values := range 10 {
			args, vals := make([]int, count), make([]int, values)
			for place := range args {
				args[place] = place
			}
			for place := range vals {
				vals[place] = 10 * place
			}
			alone := Batch{Args: args}
			splits(t, alone, vals, nil, count == values)
			if count == 0 {
				continue
			}
			b := Batch{args, []Member{{4, 0}}}
			if count != values {
				refuses(t, b, vals)
				continue
			}
			splits(t, b, vals, []Pair{{4, 0}}, true)
		}
	}
}

// P13.2, R2: of neither arguments nor values nor members there is nothing, and true; with a member it has no place.
func TestSplitOfNothing(t *testing.T) {
	for _, vals := range [][]int{nil, {}} {
		splits(t, Batch{}, vals, nil, true)
		splits(t, Batch{[]int{}, []Member{}}, vals, nil, true)
		splits(t, Batch{[]int{}, nil}, vals, nil, true)
		refuses(t, Batch{Members: []Member{{1, 0}}}, vals)
		refuses(t, Batch{[]int{}, []Member{{1, -1}}}, vals)
		refuses(t, One(1, 5), vals)
	}
	refuses(t, Batch{}, []int{1})
	refuses(t, Batch{Members: []Member{{1, 0}}}, []int{1})
	splits(t, Batch{Args: []int{5, 6}}, []int{1, 2}, nil, true)
}

// P13.2: a place is 0 to the last argument's, whoever has it: the only, the first, one between, the last; with one wrong place nobody is told.
func TestSplitOfAnyPlace(t *testing.T) {
	for count := 1; count <= 6; count++ {
		args, vals := make([]int, count), make([]int, count)
		for place := range count {
			args[place], vals[place] = place, 100+place
		}
		for _, at := range append(ends(), count-1, count, count+1, -count, 6, 7) {
			for members := 1; members <= 4; members++ {
				for whose := range members {
					b := Batch{args, make([]Member, members)}
					b.Members[whose] = Member{8, at}
					want, ok := modelSplit(b, vals)
					if ok != (at >= 0 && at < count) {
						t.Fatalf("the model splits %+v: %t", b, ok)
					}
					splits(t, b, vals, want, ok)
				}
			}
		}
	}
}

// P13.2: the first member's Id, whatever it is; 0 without members, also with arguments.
func TestLead(t *testing.T) {
	for _, id := range ends() {
		leads(t, Batch{Members: []Member{{id, 3}}}, id)
		leads(t, Batch{[]int{9}, []Member{{id, math.MinInt}, {4, 0}, {-5, 0}}}, id)
		b := One(id, 5)
		for _, other := range ends() {
			more, _ := addsAsModel(t, b, other, other, 4)
			leads(t, more, id)
		}
		leads(t, b, id)
	}
	leads(t, Batch{}, 0)
	leads(t, Batch{Members: []Member{}}, 0)
	leads(t, Batch{Args: []int{5, 6}}, 0)
	leads(t, roomy(Batch{}, 3), 0)
}

// R3, and the chapter's way: a batch with one more leaves the batch that it was made of as it was, also what stands behind its lengths.
func TestAddLeavesWhatIsBehind(t *testing.T) {
	for _, like := range append(odd(), One(1, 5), made(t, 5, 7, 5)) {
		for room := range 6 {
			for _, arg := range []int{5, 6} {
				for most := range 6 {
					b := roomy(like, room)
					addsAsModel(t, b, 9, arg, most)
					for _, a := range whole(b).Args[len(b.Args):][:room] {
						if a != behind {
							t.Fatalf("behind %+v stands %+v", like, whole(b))
						}
					}
					for _, m := range whole(b).Members[len(b.Members):][:room] {
						if m != (Member{behind, behind}) {
							t.Fatalf("behind %+v stands %+v", like, whole(b))
						}
					}
				}
			}
		}
	}
}

// R3, and the chapter's way: two batches that were made of the same one share nothing, with it or each other, whether an argument was put, was there, or was refused.
func TestMadeOfTheSameOne(t *testing.T) {
	for _, like := range append(odd(), One(1, 5), made(t, 5, 7, 5)) {
		for room := range 6 {
			for _, arg := range []int{5, 6, 7} {
				for _, other := range []int{5, 6, 7} {
					for most := range 5 {
						b := roomy(like, room)
						first, _ := addsAsModel(t, b, 8, arg, most)
						second, _ := addsAsModel(t, b, 9, other, most)
						wasFirst, _ := modelAdd(like, 8, arg, most)
						wasSecond, _ := modelAdd(like, 9, other, most)
						if !same(first, wasFirst) {
							t.Fatalf("the first one of %+v became %+v", like, first)
						}
						spoil(first)
						if !same(second, wasSecond) || !same(b, like) {
							t.Fatalf("by its first one %+v became %+v, the second one %+v", like, b, second)
						}
						spoil(second)
						if !same(b, like) {
							t.Fatalf("by its second one %+v became %+v", like, b)
						}
					}
				}
			}
		}
	}
}

// R3: what was handed in may be changed afterwards, and what was told stays.
func TestHandedInIsChanged(t *testing.T) {
	for _, like := range append(odd(), One(1, 5), made(t, 5, 7, 5)) {
		for room := range 4 {
			for _, arg := range []int{5, 6, 7} {
				for most := range 5 {
					b := roomy(like, room)
					got, _ := addsAsModel(t, b, 8, arg, most)
					spoil(b)
					if want, _ := modelAdd(like, 8, arg, most); !same(got, want) {
						t.Fatalf("Add(%+v, 8, %d, %d) became %+v", like, arg, most, got)
					}
				}
			}
		}
	}
}

// R3: batches that were made one of the other, each kept: none of them is changed by what comes later, though all have room.
func TestEachOfMany(t *testing.T) {
	b, kept, was := One(1, 0), []Batch{}, []Batch{}
	for turn := range 200 {
		kept, was = append(kept, b), append(was, copied(b))
		b, _ = addsAsModel(t, b, turn, turn*turn%37, 30)
	}
	for turn := range kept {
		if !same(kept[turn], was[turn]) {
			t.Fatalf("turn %d: %+v became %+v", turn, was[turn], kept[turn])
		}
		// From each of them others are made, that go apart.
		addsAsModel(t, kept[turn], -1, -1, 50)
		if turn+1 < len(kept) && !same(kept[turn+1], was[turn+1]) {
			t.Fatalf("turn %d: behind it %+v became %+v", turn, was[turn+1], kept[turn+1])
		}
	}
}

// R3: pairs are the caller's own, and shared with nothing that was handed in.
func TestPairsAreTheCallersOwn(t *testing.T) {
	like := made(t, 5, 7, 5)
	b, vals := roomy(like, 2), []int{50, 70}
	want := []Pair{{1, 50}, {2, 70}, {3, 50}}
	first := splits(t, b, vals, want, true)
	second := splits(t, b, vals, want, true)
	for place := range first[:cap(first)] {
		first[:cap(first)][place] = Pair{spoiled, spoiled}
	}
	if !slices.Equal(second, want) || !same(b, like) || !slices.Equal(vals, []int{50, 70}) {
		t.Fatalf("by the first pairs became %v, %+v, %v", second, b, vals)
	}
	spoil(b)
	vals[0], vals[1] = spoiled, spoiled
	if !slices.Equal(second, want) {
		t.Fatalf("by what was handed in the pairs became %v", second)
	}
}

// R2: nil and empty lists are the same to every call.
func TestNilAndEmpty(t *testing.T) {
	none, empty := Batch{}, Batch{[]int{}, []Member{}}
	for _, most := range ends() {
		for _, arg := range ends() {
			a, okA := Add(none, 3, arg, most)
			b, okB := Add(empty, 3, arg, most)
			if okA != okB || !same(a, b) {
				t.Fatalf("Add(.., 3, %d, %d) = %+v, %t of nil, %+v, %t of empty", arg, most, a, okA, b, okB)
			}
		}
		if Full(none, most) != Full(empty, most) {
			t.Fatalf("Full(.., %d) = %t of nil", most, Full(none, most))
		}
	}
	leads(t, none, 0)
	leads(t, empty, 0)
	splits(t, none, []int{}, nil, true)
	splits(t, empty, nil, nil, true)
}

// R4: nothing is kept from call to call: asked again, with others between, the answer is the same.
func TestNothingIsKept(t *testing.T) {
	for range 3 {
		for _, b := range odd() {
			for _, other := range odd() {
				addsAsModel(t, b, 4, 6, 5)
				addsAsModel(t, other, 4, 6, 5)
				vals := make([]int, len(b.Args))
				want, ok := modelSplit(b, vals)
				splits(t, b, vals, want, ok)
			}
		}
	}
}

// P13.1 to P13.3: all ways in which up to six commands want four arguments, of each most.
func TestAllShortWays(t *testing.T) {
	const wanted = 4
	for most := -1; most <= wanted+1; most++ {
		var from func(b Batch, depth int)
		from = func(b Batch, depth int) {
			vals := make([]int, len(b.Args))
			for place := range vals {
				vals[place] = 10 * b.Args[place]
			}
			want, ok := modelSplit(b, vals)
			splits(t, b, vals, want, ok)
			full(t, b, most, len(b.Args) >= most)
			if depth == 6 {
				return
			}
			for arg := range wanted {
				if more, ok := addsAsModel(t, b, depth, arg, most); ok {
					from(more, depth+1)
				}
			}
		}
		from(Batch{}, 0)
		from(One(-1, 2), 1)
	}
}

// anyNumber is a small number mostly, and at times one at its worst.
func anyNumber(chance *rand.Rand) int {
	if chance.Intn(6) == 0 {
		return ends()[chance.Intn(len(ends()))]
	}
	return chance.Intn(7) - 1
}

func anyBatch(chance *rand.Rand) Batch {
	var b Batch
	for range chance.Intn(6) {
		b.Args = append(b.Args, anyNumber(chance))
	}
	for range chance.Intn(6) {
		b.Members = append(b.Members, Member{anyNumber(chance), anyNumber(chance)})
	}
	return roomy(b, chance.Intn(4))
}

// P13.1, P13.2, P1: batches of chance, right and wrong ones, as the chapter's words have it.
func TestAsTheModel(t *testing.T) {
	for seed := range int64(3000) {
		chance := rand.New(rand.NewSource(seed))
		b := anyBatch(chance)
		for range 20 {
			b, _ = addsAsModel(t, b, anyNumber(chance), anyNumber(chance), anyNumber(chance))
			vals := make([]int, max(0, len(b.Args)+chance.Intn(5)/2-chance.Intn(4)/3))
			for place := range vals {
				vals[place] = anyNumber(chance)
			}
			want, ok := modelSplit(b, vals)
			splits(t, b, vals, want, ok)
			most := anyNumber(chance)
			full(t, b, most, len(b.Args) >= most)
			if len(b.Members) > 0 {
				leads(t, b, b.Members[0].Id)
			}
		}
	}
}

// P13.3, P7: of many commands with many arguments, some wanted twice, the arguments are unlike, there are no more than most, and each is told the value of its own; who is refused is told nothing.
func TestEachIsToldItsOwn(t *testing.T) {
	for seed := range int64(300) {
		chance := rand.New(rand.NewSource(seed))
		most, kinds := 1+chance.Intn(12), 1+chance.Intn(15)
		first := chance.Intn(kinds)
		b, ids, wants := One(500, first), []int{500}, []int{first}
		there := map[int]int{first: 1}
		for id := 501; id < 600; id++ {
			arg := chance.Intn(kinds)
			more, ok := Add(b, id, arg, most)
			if ok != (there[arg] == 1 || len(there) < most) {
				t.Fatalf("seed %d: Add(%+v, %d, %d, %d) is %t", seed, b, id, arg, most, ok)
			}
			if ok {
				ids, wants = append(ids, id), append(wants, arg)
				there[arg] = 1
			}
			b = more
		}
		unlike := slices.Compact(slices.Sorted(slices.Values(b.Args)))
		if len(unlike) != len(b.Args) || len(b.Args) != len(there) || len(b.Args) > most {
			t.Fatalf("seed %d: %d arguments of %d, %v", seed, len(there), most, b.Args)
		}
		vals := make([]int, len(b.Args))
		for place, arg := range b.Args {
			vals[place] = 1000 + arg
		}
		want := make([]Pair, len(ids))
		for place := range ids {
			want[place] = Pair{ids[place], 1000 + wants[place]}
		}
		splits(t, b, vals, want, true)
		leads(t, b, 500)
		full(t, b, most, len(there) == most)
	}
}
