package mask_test

import (
	"math"
	"slices"
	"testing"

	"interdict/mask"
)

// sets are those of one number, of all but one, and many between them.
func sets() []uint64 {
	l := []uint64{0, 1, 33, 1 << 63, 1<<63 | 1, math.MaxUint64, 0x5555555555555555, 0xAAAAAAAAAAAAAAAA}
	for i := range 64 {
		l = append(l, 1<<i, ^uint64(1<<i), 1<<i-1, math.MaxUint64<<i)
	}
	m := uint64(1)
	for range 200 {
		m = m*6364136223846793005 + 1442695040888963407
		l = append(l, m, m&(m<<7)&(m>>5))
	}
	return l
}

// held are the numbers of m, told bit by bit.
func held(m uint64) []int {
	var l []int
	for i := 0; m != 0; i, m = i+1, m/2 {
		if m%2 == 1 {
			l = append(l, i)
		}
	}
	return l
}

// outside are numbers that are in no set.
var outside = []int{-1, -2, -63, -64, 64, 65, 127, 128, 1 << 32, -1 << 32, 1<<32 + 5, math.MaxInt, math.MinInt, math.MinInt + 5}

func TestHasWithWithout(t *testing.T) {
	for _, m := range sets() {
		l := held(m)
		for i := range 64 {
			is := slices.Contains(l, i)
			if mask.Has(m, i) != is {
				t.Fatalf("P2.1: Has(%#x, %d) = %v", m, i, !is)
			}
			more := l
			if !is {
				more = append(slices.Clone(l), i)
				slices.Sort(more)
			}
			if got := mask.With(m, i); !slices.Equal(held(got), more) {
				t.Fatalf("P2.1: With(%#x, %d) = %#x", m, i, got)
			}
			less := slices.DeleteFunc(slices.Clone(l), func(k int) bool { return k == i })
			if got := mask.Without(m, i); !slices.Equal(held(got), less) {
				t.Fatalf("P2.1: Without(%#x, %d) = %#x", m, i, got)
			}
		}
		for _, i := range outside {
			if mask.Has(m, i) || mask.With(m, i) != m || mask.Without(m, i) != m {
				t.Fatalf("P2.1: of %#x and %d", m, i)
			}
		}
	}
}

func TestBelow(t *testing.T) {
	for n := -70; n <= 130; n++ {
		var want []int
		for i := 0; i < n && i < 64; i++ {
			want = append(want, i)
		}
		if got := mask.Below(n); !slices.Equal(held(got), want) {
			t.Errorf("P2.1: Below(%d) = %#x", n, got)
		}
	}
	if mask.Below(3) != 7 || mask.Below(math.MaxInt) != math.MaxUint64 || mask.Below(math.MinInt) != 0 || mask.Below(1<<32) != math.MaxUint64 {
		t.Error("P2.1: Below at its ends")
	}
}

func TestCountFirstLastAll(t *testing.T) {
	for _, m := range sets() {
		l := held(m)
		first, last := -1, -1
		if len(l) > 0 {
			first, last = l[0], l[len(l)-1]
		}
		if mask.Count(m) != len(l) || mask.First(m) != first || mask.Last(m) != last {
			t.Errorf("P2.2: of %#x: %d, %d, %d", m, mask.Count(m), mask.First(m), mask.Last(m))
		}
		if got := slices.Collect(mask.All(m)); !slices.Equal(got, l) {
			t.Errorf("P2.2: All(%#x): %v", m, got)
		}
	}
	if got := slices.Collect(mask.All(33)); !slices.Equal(got, []int{0, 5}) {
		t.Errorf("P2.2: All(33): %v", got)
	}
}

func TestAllEndsWhereNoMoreIsWanted(t *testing.T) {
	for _, m := range sets() {
		l := held(m)
		for stop := 1; stop <= len(l); stop++ {
			asked := 0
			mask.All(m)(func(i int) bool {
				if asked >= stop || i != l[asked] {
					t.Fatalf("P2.2: All(%#x), ended at %d, goes on to %d", m, stop, i)
				}
				asked++
				return asked < stop
			})
			if asked != stop {
				t.Fatalf("P2.2: All(%#x) gave %d of %d", m, asked, stop)
			}
		}
	}
}

func TestAllBeginsAnew(t *testing.T) {
	all := mask.All(0b10110)
	for i := range all {
		if i != 1 {
			t.Error("P2.2: the least one is 1")
		}
		break
	}
	for range 2 {
		if got := slices.Collect(all); !slices.Equal(got, []int{1, 2, 4}) {
			t.Errorf("P2.2: gone over again: %v", got)
		}
	}
}

func TestOf(t *testing.T) {
	for _, c := range []struct {
		l    []int
		want uint64
	}{
		{nil, 0}, {[]int{}, 0}, {[]int{5, 0, 5}, 33}, {[]int{0}, 1}, {[]int{63}, 1 << 63}, {[]int{63, 62, 63}, 3 << 62},
	} {
		if m, ok := mask.Of(c.l); !ok || m != c.want {
			t.Errorf("P2.2: Of(%v) = %#x, %v", c.l, m, ok)
		}
	}
	for _, m := range sets() {
		l := held(m)
		slices.Reverse(l)
		if got, ok := mask.Of(append(l, l...)); !ok || got != m {
			t.Errorf("P2.2: Of the numbers of %#x = %#x, %v", m, got, ok)
		}
	}
}

func TestOfWrongNumbers(t *testing.T) {
	for _, i := range outside {
		for _, l := range [][]int{{i}, {i, 3}, {3, i}, {0, 63, i, 7}} {
			if m, ok := mask.Of(l); ok || m != 0 {
				t.Errorf("P2.2: Of(%v) = %#x, %v", l, m, ok)
			}
		}
	}
}

func TestOfLeavesItsList(t *testing.T) {
	room := []int{9, 2, 9, 40, 41}
	mask.Of(room[:3])
	if !slices.Equal(room, []int{9, 2, 9, 40, 41}) {
		t.Errorf("R4: %v", room)
	}
}
