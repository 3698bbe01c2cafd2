package bits

import (
	"math"
	"math/big"
	"slices"
	"testing"
)

const most = math.MaxUint64

// numbers are those around every power of two, a few beside them, and some whose bytes are all different.
func numbers() []uint64 {
	l := []uint64{0, 5, 7, 70, 100, 258, 4097, 0x0123456789abcdef, 0xfedcba9876543210, 0x8000000000000001, most}
	for n := range 64 {
		power := uint64(1) << n
		l = append(l, power-1, power, power+1)
	}
	slices.Sort(l)
	return slices.Compact(l)
}

// times are fewer of them: the ends of slots and of blocks of all levels, and what is beside them.
func times() []uint64 {
	l := []uint64{0, 1, 5, 62, 63, 65, 70, 127, 128, 1<<40 - 1, 1 << 40, 1<<63 - 1, 1 << 63, most - 63, most - 64, most - 1, most}
	for level := 1; level <= 10; level++ {
		power := uint64(1) << (6 * level)
		l = append(l, power-1, power, power+1, power*2-1, power*2, power*3+5)
	}
	slices.Sort(l)
	return slices.Compact(l)
}

func levels() []int {
	return []int{
		math.MinInt, math.MinInt + 1, math.MinInt32, -99, -2, -1,
		0, 1, 2, 3, 4, 5, 9, 10, 11, 12, 42, 43, 63, 64, 99,
		math.MaxInt32, math.MaxInt/6 + 1, 1 << 61, 1 << 62, math.MaxInt - 1, math.MaxInt,
	}
}

func endless(n uint64) *big.Int { return new(big.Int).SetUint64(n) }

// divided is P2.1's words of Block, one division after the other.
func divided(t uint64, level int) uint64 {
	for ; level >= 1 && t > 0; level-- {
		t /= 64
	}
	return t
}

// meet is P2.1's words of Level.
func meet(now, due uint64) int {
	for _, level := range []int{0, 1, 2, 3} {
		if divided(now, level+1) == divided(due, level+1) {
			return level
		}
	}
	return 4
}

// modulo is P2.2's words of Narrow, in numbers without an end: x modulo 2^32, of -2^31 to 2^31 less 1.
func modulo(x int64) int64 {
	whole := new(big.Int).Lsh(big.NewInt(1), 32)
	left := new(big.Int).Mod(big.NewInt(x), whole)
	if left.Cmp(big.NewInt(math.MaxInt32)) > 0 {
		left.Sub(left, whole)
	}
	return left.Int64()
}

// P2.1: Len.
func TestLen(t *testing.T) {
	for _, c := range []struct {
		x    uint64
		want int
	}{
		{0, 0}, {1, 1}, {2, 2}, {3, 2}, {4, 3}, {63, 6}, {64, 7}, {255, 8}, {256, 9},
		{1<<32 - 1, 32}, {1 << 32, 33}, {1<<63 - 1, 63}, {1 << 63, 64}, {most, 64},
	} {
		if got := Len(c.x); got != c.want {
			t.Errorf("Len(%d) = %d, want %d", c.x, got, c.want)
		}
	}
}

// P2.1: a number is below the power of two of its length, and not below the one before.
func TestLenIsTheLeast(t *testing.T) {
	for _, x := range numbers() {
		n := Len(x)
		if n < 0 || n > 64 {
			t.Errorf("Len(%d) = %d", x, n)
			continue
		}
		power := new(big.Int).Lsh(big.NewInt(1), uint(n))
		if endless(x).Cmp(power) >= 0 {
			t.Errorf("Len(%d) = %d, and it is not below 2^%d", x, n, n)
		}
		if n > 0 && endless(x).Cmp(power.Rsh(power, 1)) < 0 {
			t.Errorf("Len(%d) = %d, and it is below 2^%d", x, n, n-1)
		}
	}
}

// P2.1: Block.
func TestBlock(t *testing.T) {
	for _, c := range []struct {
		t     uint64
		level int
		want  uint64
	}{
		{5, 0, 5},
		{5, -1, 5},
		{most, math.MinInt, most},
		{5, 1, 0},
		{63, 1, 0},
		{64, 1, 1},
		{127, 1, 1},
		{4095, 2, 0},
		{4097, 1, 64},
		{4097, 2, 1},
		{1 << 24, 4, 1},
		{most, 1, 1<<58 - 1},
		{1<<60 - 1, 10, 0},
		{1 << 60, 10, 1},
		{most, 10, 15},
		{most, 11, 0},
		{1 << 63, 99, 0},
		{most, 1 << 62, 0},
		{most, math.MaxInt, 0},
	} {
		if got := Block(c.t, c.level); got != c.want {
			t.Errorf("Block(%d, %d) = %d, want %d", c.t, c.level, got, c.want)
		}
	}
}

// P2.1: Slot.
func TestSlot(t *testing.T) {
	for _, c := range []struct {
		t     uint64
		level int
		want  int
	}{
		{0, 0, 0},
		{5, 0, 5},
		{63, 0, 63},
		{64, 0, 0},
		{70, 0, 6},
		{70, 1, 1},
		{70, -1, 6},
		{70, math.MinInt, 6},
		{4097, 0, 1},
		{4097, 1, 0},
		{4097, 2, 1},
		{most, 0, 63},
		{most, 9, 63},
		{most, 10, 15},
		{most, 11, 0},
		{most, 99, 0},
		{most, math.MaxInt, 0},
	} {
		if got := Slot(c.t, c.level); got != c.want {
			t.Errorf("Slot(%d, %d) = %d, want %d", c.t, c.level, got, c.want)
		}
	}
}

// P2.1: blocks and slots, as they are divided one time after the other.
func TestBlocksAndSlotsAsDivided(t *testing.T) {
	for _, n := range numbers() {
		for _, level := range levels() {
			want := divided(n, level)
			if got := Block(n, level); got != want {
				t.Errorf("Block(%d, %d) = %d, want %d", n, level, got, want)
			}
			if got := Slot(n, level); got != int(want%64) {
				t.Errorf("Slot(%d, %d) = %d, want %d", n, level, got, want%64)
			}
		}
	}
}

// P2.1: Level.
func TestLevel(t *testing.T) {
	for _, c := range []struct {
		now, due uint64
		want     int
	}{
		{0, 0, 0},
		{most, most, 0},
		{0, 63, 0},
		{64, 127, 0},
		{63, 64, 1},
		{5, 70, 1},
		{0, 4095, 1},
		{4095, 4096, 2},
		{5, 4096, 2},
		{0, 1<<18 - 1, 2},
		{5, 1 << 18, 3},
		{1<<18 - 1, 1 << 18, 3},
		{0, 1<<24 - 1, 3},
		{0, 1 << 24, 4},
		{1<<24 - 1, 1 << 24, 4},
		{0, 1 << 30, 4},
		{0, most, 4},
		{1 << 63, most, 4},
		{most - 63, most, 0},
		{most - 64, most, 1},
		{most - (1<<24 - 1), most, 3},
		{most - 1<<24, most, 4},
	} {
		if got := Level(c.now, c.due); got != c.want {
			t.Errorf("Level(%d, %d) = %d, want %d", c.now, c.due, got, c.want)
		}
		if got := Level(c.due, c.now); got != c.want {
			t.Errorf("Level(%d, %d) = %d, want %d", c.due, c.now, got, c.want)
		}
	}
}

// P2.1: levels, as times are divided one time after the other.
func TestLevelsAsDivided(t *testing.T) {
	for _, now := range times() {
		for _, due := range times() {
			if got, want := Level(now, due), meet(now, due); got != want {
				t.Errorf("Level(%d, %d) = %d, want %d", now, due, got, want)
			}
		}
	}
}

// P2.2: Bytes.
func TestBytes(t *testing.T) {
	for _, c := range []struct {
		x    uint64
		want [8]byte
	}{
		{0, [8]byte{}},
		{1, [8]byte{7: 1}},
		{255, [8]byte{7: 255}},
		{256, [8]byte{6: 1}},
		{258, [8]byte{6: 1, 7: 2}},
		{1 << 63, [8]byte{0: 128}},
		{0x0123456789abcdef, [8]byte{0x01, 0x23, 0x45, 0x67, 0x89, 0xab, 0xcd, 0xef}},
		{most, [8]byte{255, 255, 255, 255, 255, 255, 255, 255}},
	} {
		if got := Bytes(c.x); got != c.want {
			t.Errorf("Bytes(%d) = %v, want %v", c.x, got, c.want)
		}
	}
}

// P2.2: From.
func TestFrom(t *testing.T) {
	for _, c := range []struct {
		b    []byte
		want uint64
	}{
		{nil, 0},
		{[]byte{}, 0},
		{[]byte{0}, 0},
		{[]byte{7}, 7},
		{[]byte{255}, 255},
		{[]byte{1, 2}, 258},
		{[]byte{2, 1, 0}, 2<<16 + 256},
		{[]byte{1, 2, 3, 4, 5, 6, 7}, 0x01020304050607},
		{[]byte{1, 2, 3, 4, 5, 6, 7, 8}, 0x0102030405060708},
		{[]byte{255, 255, 255, 255, 255, 255, 255, 255}, most},
		{[]byte{9, 0, 0, 0, 0, 0, 0, 0, 7}, 7},
		{[]byte{9, 1, 2, 3, 4, 5, 6, 7, 8}, 0x0102030405060708},
		{append(slices.Repeat([]byte{255}, 1000), 1, 2, 3, 4, 5, 6, 7, 8), 0x0102030405060708},
		{slices.Repeat([]byte{255}, 1000), most},
	} {
		if got := From(c.b); got != c.want {
			t.Errorf("From(%v) = %d, want %d", c.b, got, c.want)
		}
	}
}

// P2.2: the bytes behind a slice's end, and those ahead of its begin, play no part.
func TestFromReadsItsBytesAlone(t *testing.T) {
	all := []byte{9, 9, 9, 1, 2, 9, 9, 9, 9, 9, 9, 9, 9}
	if got := From(all[3:5]); got != 258 {
		t.Errorf("From of a piece = %d, want 258", got)
	}
	if got := From(all[3:3]); got != 0 {
		t.Errorf("From of an empty piece = %d, want 0", got)
	}
}

// R3: what is read stays as it is.
func TestFromLeavesItsBytesAlone(t *testing.T) {
	for _, b := range [][]byte{{3, 2, 1}, {9, 1, 2, 3, 4, 5, 6, 7, 8}} {
		was := slices.Clone(b)
		From(b)
		if !slices.Equal(b, was) {
			t.Errorf("read, the bytes are %v, want %v", b, was)
		}
	}
}

// P2.2: Narrow.
func TestNarrow(t *testing.T) {
	for _, c := range []struct {
		x    int64
		want int32
		is   bool
	}{
		{0, 0, true},
		{5, 5, true},
		{-1, -1, true},
		{math.MaxInt32, math.MaxInt32, true},
		{math.MaxInt32 + 1, math.MinInt32, false},
		{math.MinInt32, math.MinInt32, true},
		{math.MinInt32 - 1, math.MaxInt32, false},
		{1<<32 - 1, -1, false},
		{1 << 32, 0, false},
		{1<<32 + 5, 5, false},
		{-1 << 32, 0, false},
		{-1<<32 - 7, -7, false},
		{math.MaxInt64, -1, false},
		{math.MinInt64, 0, false},
		{math.MinInt64 + 3, 3, false},
	} {
		if got, is := Narrow(c.x); got != c.want || is != c.is {
			t.Errorf("Narrow(%d) = %d, %t, want %d, %t", c.x, got, is, c.want, c.is)
		}
	}
}

// P2.2: a shorter number, as it is modulo 2^32 in numbers without an end.
func TestNarrowAsModulo(t *testing.T) {
	for _, n := range numbers() {
		for _, x := range []int64{int64(n), -int64(n)} {
			want := modulo(x)
			if got, is := Narrow(x); int64(got) != want || is != (want == x) {
				t.Errorf("Narrow(%d) = %d, %t, want %d, %t", x, got, is, want, want == x)
			}
		}
	}
}

// P2.3: a number is told there and back, whatever stands ahead of its bytes.
func TestThereAndBack(t *testing.T) {
	for _, x := range numbers() {
		b := Bytes(x)
		if got := From(b[:]); got != x {
			t.Errorf("%d is %v, and that is %d", x, b, got)
		}
		if got := From(append([]byte{1, 2, 3}, b[:]...)); got != x {
			t.Errorf("%d behind three bytes is %d", x, got)
		}
		short := b[8-(Len(x)+7)/8:]
		if got := From(short); got != x {
			t.Errorf("%d without its zeros is %v, and that is %d", x, short, got)
		}
	}
}

// P2.3: eight bytes are told there and back.
func TestBytesThereAndBack(t *testing.T) {
	for i := range 8 {
		for one := range 256 {
			b := [8]byte{1, 2, 3, 4, 5, 6, 7, 8}
			b[i] = byte(one)
			if got := Bytes(From(b[:])); got != b {
				t.Errorf("%v there and back is %v", b, got)
			}
		}
	}
}

// P2.3: two times of a level are in one block of the next one, and not in one below; so the later one's slot there is another one.
func TestTimesOfALevel(t *testing.T) {
	for _, now := range times() {
		for _, due := range times() {
			level := Level(now, due)
			if level < 0 || level > 4 {
				t.Errorf("Level(%d, %d) = %d", now, due, level)
				continue
			}
			if level < 4 && Block(now, level+1) != Block(due, level+1) {
				t.Errorf("%d and %d are of the level %d, and in two blocks of the next one", now, due, level)
			}
			for below := 1; below <= level; below++ {
				if Block(now, below) == Block(due, below) {
					t.Errorf("%d and %d are of the level %d, and in one block of %d", now, due, level, below)
				}
			}
			if level > 0 && level < 4 && Slot(now, level) == Slot(due, level) {
				t.Errorf("%d and %d are of the level %d, and in one slot there", now, due, level)
			}
			if level == 0 && (Slot(now, 0) == Slot(due, 0)) != (now == due) {
				t.Errorf("%d and %d are of the level 0: in one slot, and not the same, or the other way", now, due)
			}
		}
	}
}
