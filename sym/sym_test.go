package sym_test

import (
	"math"
	"math/rand"
	"slices"
	"testing"

	"interdict/api"
	"interdict/lattice"
	"interdict/sym"
)

// order is the lattice of some pairs.
func order(t *testing.T, n int, pairs ...[2]int) []uint64 {
	t.Helper()
	up, e := lattice.Build(n, pairs)
	if e != api.OK {
		t.Fatalf("the test's own order %v is refused: %d", pairs, e)
	}
	return up
}

// chain is the lattice of n levels each of which stands above the one ahead of it.
func chain(t *testing.T, n int) []uint64 {
	t.Helper()
	var pairs [][2]int
	for i := range n - 1 {
		pairs = append(pairs, [2]int{i, i + 1})
	}
	return order(t, n, pairs...)
}

// diamond has two levels beside one another.
func diamond(t *testing.T) []uint64 {
	t.Helper()
	return order(t, 4, [2]int{0, 1}, [2]int{0, 2}, [2]int{1, 3}, [2]int{2, 3})
}

// small are a few lattices, with numbers in no order of theirs, too.
func small(t *testing.T) [][]uint64 {
	t.Helper()
	return [][]uint64{
		chain(t, 1), chain(t, 2), chain(t, 3), diamond(t),
		order(t, 2, [2]int{1, 0}),
		order(t, 4, [2]int{2, 1}, [2]int{2, 3}, [2]int{1, 0}, [2]int{3, 0}),
		// Three levels beside one another, and a chain beside a level.
		order(t, 5, [2]int{0, 1}, [2]int{0, 2}, [2]int{0, 3}, [2]int{1, 4}, [2]int{2, 4}, [2]int{3, 4}),
		order(t, 5, [2]int{4, 3}, [2]int{3, 2}, [2]int{2, 0}, [2]int{4, 1}, [2]int{1, 0}),
	}
}

// noLattices are orders of which nothing is told.
func noLattices(t *testing.T) [][]uint64 {
	t.Helper()
	return [][]uint64{nil, {}, {0}, {3}, {1, 2}, {3, 3}, {3, 2, 4}, {7, 2, 4}, {15, 10, 12, 4}, {15, 10, 12, 24}, make([]uint64, 65), append(chain(t, 64), 0)}
}

// strange are the numbers of no level of a lattice.
func strange(up []uint64) []int {
	return []int{-1, len(up), 64, math.MaxInt, math.MinInt}
}

// below: is the level a at or below b?
func below(up []uint64, a, b int) bool { return up[a]>>b&1 == 1 }

// isLevel: is it the number of a level?
func isLevel(up []uint64, level int) bool { return level >= 0 && level < len(up) }

// extreme is the one of all levels that are right which comes ahead of all others of these.
func extreme(up []uint64, right func(level int) bool, ahead func(a, b int) bool) int {
	for a := range up {
		first := right(a)
		for b := range up {
			first = first && (!right(b) || ahead(a, b))
		}
		if first {
			return a
		}
	}
	return -1
}

// join is the least level above some.
func join(up []uint64, levels ...int) int {
	return extreme(up, func(c int) bool {
		return !slices.ContainsFunc(levels, func(a int) bool { return !below(up, a, c) })
	}, func(a, b int) bool { return below(up, a, b) })
}

// meet is the greatest level below two.
func meet(up []uint64, a, b int) int {
	return extreme(up, func(c int) bool { return below(up, c, a) && below(up, c, b) }, func(a, b int) bool { return below(up, b, a) })
}

// label is one of a level and some bits.
func label(level int, bits ...int) api.Label {
	l := api.Label{Level: level}
	for _, b := range bits {
		l.Mask |= 1 << b
	}
	return l
}

// put is what a label becomes, as the chapter says.
func put(up []uint64, l api.Label, args []api.Label, pc api.Label) (api.Label, bool) {
	if len(args) > 6 || !isLevel(up, l.Level) || !isLevel(up, pc.Level) {
		return api.Label{}, false
	}
	levels, m := []int{l.Level}, uint64(0)
	for bit := range 64 {
		if l.Mask>>bit&1 == 0 {
			continue
		}
		what := pc
		if bit != 6 {
			if bit >= len(args) {
				return api.Label{}, false
			}
			what = args[bit]
		}
		if !isLevel(up, what.Level) {
			return api.Label{}, false
		}
		levels, m = append(levels, what.Level), m|what.Mask
	}
	for _, a := range args {
		if !isLevel(up, a.Level) {
			return api.Label{}, false
		}
	}
	return api.Label{Level: join(up, levels...), Mask: m}, true
}

// spare is a list with room behind its end, in which something stands.
func spare[T any](l []T, behind T) []T {
	return append(slices.Clone(l), behind)[:len(l)]
}

// checkPut holds what is said of a call against the chapter, with levels alone, too.
func checkPut(t *testing.T, up []uint64, l api.Label, args []api.Label, pc api.Label) {
	t.Helper()
	want, wantOK := put(up, l, args, pc)
	given, levels := spare(args, label(99, 9)), spare(up, 99)
	if got, ok := sym.Put(levels, l, given, pc); got != want || ok != wantOK {
		t.Fatalf("P19.2: Put(%v, %v, %v, %v) = %v, %v, want %v, %v", up, l, args, pc, got, ok, want, wantOK)
	}
	var low []int
	for _, a := range args {
		low = append(low, a.Level)
	}
	lows := spare(low, 99)
	if got, ok := sym.Low(levels, l, lows, pc.Level); got != want.Level || ok != wantOK {
		t.Fatalf("P19.2: Low(%v, %v, %v, %d) = %v, %v, want %v, %v", up, l, low, pc.Level, got, ok, want.Level, wantOK)
	}
	if !slices.Equal(given, args) || given[:len(args)+1][len(args)] != label(99, 9) || !slices.Equal(lows, low) || lows[:len(args)+1][len(args)] != 99 || !slices.Equal(levels, up) || levels[:len(up)+1][len(up)] != 99 {
		t.Fatalf("R4: Put or Low of %v, %v, %v, %v has changed what was handed in", up, l, args, pc)
	}
}

// checkPair holds what is said of two labels against the chapter.
func checkPair(t *testing.T, up []uint64, a, b api.Label) {
	t.Helper()
	var want api.Label
	wantOK := isLevel(up, a.Level) && isLevel(up, b.Level)
	wantLeq := false
	if wantOK {
		want = api.Label{Level: join(up, a.Level, b.Level), Mask: a.Mask | b.Mask}
		wantLeq = below(up, a.Level, b.Level) && a.Mask|b.Mask == b.Mask
	}
	if got, ok := sym.Join(up, a, b); got != want || ok != wantOK {
		t.Fatalf("P19.1: Join(%v, %v, %v) = %v, %v, want %v, %v", up, a, b, got, ok, want, wantOK)
	}
	if got := sym.Leq(up, a, b); got != wantLeq {
		t.Fatalf("P19.1: Leq(%v, %v, %v) = %v", up, a, b, got)
	}
}

// checkCap holds capped caps against the chapter.
func checkCap(t *testing.T, up []uint64, caps [7]int, l api.Label, bound int) [7]int {
	t.Helper()
	want, wantOK := caps, l.Mask>>7 == 0 && isLevel(up, l.Level) && isLevel(up, bound)
	for _, c := range caps {
		wantOK = wantOK && isLevel(up, c)
	}
	for bit := range want {
		if wantOK && l.Mask>>bit&1 == 1 {
			want[bit] = meet(up, caps[bit], bound)
		}
	}
	if !wantOK {
		want = [7]int{}
	}
	got, ok := sym.Cap(up, caps, l, bound)
	if got != want || ok != wantOK {
		t.Fatalf("P19.3: Cap(%v, %v, %v, %d) = %v, %v, want %v, %v", up, caps, l, bound, got, ok, want, wantOK)
	}
	return got
}

func TestExamples(t *testing.T) {
	two := chain(t, 2)
	if l, ok := sym.Put(two, label(0, 0, 6), []api.Label{label(1)}, label(0, 2)); l != label(1, 2) || !ok {
		t.Errorf("P19.2: %v, %v", l, ok)
	}
	if level, ok := sym.Low(two, label(0, 0), []int{1}, 0); level != 1 || !ok {
		t.Errorf("P19.2: %d, %v", level, ok)
	}
	if c, ok := sym.Cap(two, [7]int{1, 1, 1, 1, 1, 1, 1}, label(0, 0), 0); c != [7]int{0, 1, 1, 1, 1, 1, 1} || !ok {
		t.Errorf("P19.3: %v, %v", c, ok)
	}
	four := diamond(t)
	if l, ok := sym.Join(four, label(1, 0, 63), label(2, 6)); l != label(3, 0, 6, 63) || !ok {
		t.Errorf("P19.1: %v, %v", l, ok)
	}
	if !sym.Leq(four, label(1, 2), label(3, 2, 5)) || sym.Leq(four, label(1, 2), label(2, 2)) || sym.Leq(four, label(1, 2), label(3, 5)) || sym.Leq(four, label(3), label(1)) {
		t.Error("P19.1: Leq")
	}
	if c, ok := sym.Cap(four, [7]int{3, 2, 1, 0, 3, 3, 2}, label(3, 0, 1, 2, 3, 6), 1); c != [7]int{1, 0, 1, 0, 3, 3, 0} || !ok {
		t.Errorf("P19.3: %v, %v", c, ok)
	}
}

// TestPairs holds all pairs of some labels against the chapter: masks may have any bits.
func TestPairs(t *testing.T) {
	masks := []uint64{0, 1, 2, 3, 64, 65, 127, 128, 1 << 63, 1<<63 | 64, math.MaxUint64}
	for _, up := range small(t) {
		var l []api.Label
		for level := range up {
			for _, m := range masks {
				l = append(l, api.Label{Level: level, Mask: m})
			}
		}
		for _, level := range strange(up) {
			l = append(l, label(level), label(level, 0))
		}
		for _, a := range l {
			for _, b := range l {
				checkPair(t, up, a, b)
			}
		}
	}
}

// TestPut holds each mask against each number of parameters: what stands for nothing fits no function.
func TestPut(t *testing.T) {
	up := diamond(t)
	args := []api.Label{label(1, 0), label(0, 1, 63), label(2, 0), label(0), label(0, 7, 8), label(2, 2), label(1), label(0)}
	for n := range args {
		for m := range uint64(256) {
			for _, pc := range []api.Label{label(0), label(2, 0, 5), label(3, 6), label(1, 62)} {
				checkPut(t, up, api.Label{Level: int(m) % 4, Mask: m}, args[:n], pc)
			}
		}
		for bit := 7; bit < 64; bit++ {
			checkPut(t, up, label(0, bit), args[:n], label(0))
		}
	}
	if l, ok := sym.Put(up, label(0, 5, 6), args[:6], label(1, 9)); l != label(3, 2, 9) || !ok {
		t.Errorf("P19.2: %v, %v", l, ok)
	}
	if l, ok := sym.Put(up, label(1, 6), nil, label(2, 63)); l != label(3, 63) || !ok {
		t.Errorf("P19.2, R3: of no args: %v, %v", l, ok)
	}
	if l, ok := sym.Put(up, label(1), []api.Label{}, label(2, 63)); l != label(1) || !ok {
		t.Errorf("P19.2, R3: of no args: %v, %v", l, ok)
	}
	for _, n := range []int{7, 8, 64, 100000} {
		if l, ok := sym.Put(up, label(1), make([]api.Label, n), label(0)); l != label(0) || ok {
			t.Errorf("P19.2: of %d args: %v, %v", n, l, ok)
		}
		if level, ok := sym.Low(up, label(1), make([]int, n), 0); level != 0 || ok {
			t.Errorf("P19.2: of %d args: %d, %v", n, level, ok)
		}
	}
}

// TestStrange: what is no level is refused wherever it stands, though nothing may stand for it.
func TestStrange(t *testing.T) {
	for _, up := range small(t) {
		for _, level := range strange(up) {
			checkPut(t, up, label(level), make([]api.Label, 2), label(0))
			checkPut(t, up, label(0), make([]api.Label, 2), label(level))
			checkPut(t, up, label(0, 6), make([]api.Label, 2), label(level))
			for i := range 3 {
				args := make([]api.Label, 3)
				args[i].Level = level
				checkPut(t, up, label(0), args, label(0))
				checkPut(t, up, label(0, 0, 1, 2, 6), args, label(0))
			}
			for i := range 7 {
				var caps [7]int
				caps[i] = level
				checkCap(t, up, caps, label(0), 0)
				checkCap(t, up, caps, label(0, 0, 1, 2, 3, 4, 5, 6), 0)
			}
			checkCap(t, up, [7]int{}, label(level), 0)
			checkCap(t, up, [7]int{}, label(0), level)
			checkCap(t, up, [7]int{}, label(level, 3), 0)
			checkCap(t, up, [7]int{}, label(0, 3), level)
		}
	}
}

func TestNoLattice(t *testing.T) {
	zero := api.Label{}
	for _, up := range noLattices(t) {
		if l, ok := sym.Join(up, zero, zero); l != zero || ok {
			t.Errorf("P19.1: Join of %v: %v, %v", up, l, ok)
		}
		if sym.Leq(up, zero, zero) {
			t.Errorf("P19.1: Leq of %v", up)
		}
		if l, ok := sym.Put(up, zero, nil, zero); l != zero || ok {
			t.Errorf("P19.2: Put of %v: %v, %v", up, l, ok)
		}
		if l, ok := sym.Low(up, zero, []int{0}, 0); l != 0 || ok {
			t.Errorf("P19.2: Low of %v: %v, %v", up, l, ok)
		}
		if c, ok := sym.Cap(up, [7]int{}, zero, 0); c != [7]int{} || ok {
			t.Errorf("P19.3: Cap of %v: %v, %v", up, c, ok)
		}
	}
}

// TestCap holds all masks, levels and bounds against the chapter.
func TestCap(t *testing.T) {
	r := rand.New(rand.NewSource(19))
	for _, up := range small(t) {
		for m := range uint64(300) {
			for bound := range up {
				var caps [7]int
				for i := range caps {
					caps[i] = r.Intn(len(up))
				}
				before := caps
				// A cap is no lower for being capped again.
				if got := checkCap(t, up, caps, api.Label{Level: r.Intn(len(up)), Mask: m}, bound); m < 128 && checkCap(t, up, got, api.Label{Mask: m}, bound) != got {
					t.Fatalf("P19.3: Cap(%v, %v, %d, %d) is capped once more", up, caps, m, bound)
				}
				if caps != before {
					t.Fatalf("R4: Cap has changed %v to %v", before, caps)
				}
			}
		}
		for bit := 7; bit < 64; bit++ {
			checkCap(t, up, [7]int{}, label(0, bit), 0)
			checkCap(t, up, [7]int{}, label(0, 0, bit), 0)
		}
	}
}

// chance is a label by chance, with bits of the first n and bit 6.
func chance(r *rand.Rand, up []uint64, n int) api.Label {
	l := label(r.Intn(len(up)))
	l.Mask = uint64(r.Intn(1<<n) | r.Intn(2)<<6)
	return l
}

// several are n labels by chance.
func several(r *rand.Rand, up []uint64, n, bits int) []api.Label {
	var l []api.Label
	for range n {
		l = append(l, chance(r, up, bits))
	}
	return l
}

func TestByChance(t *testing.T) {
	r := rand.New(rand.NewSource(20))
	for _, up := range append(small(t), chain(t, 64)) {
		for range 400 {
			n := r.Intn(8)
			l, args, pc := chance(r, up, 6), several(r, up, n, 6), chance(r, up, 6)
			args = append(args, api.Label{Mask: r.Uint64()})
			checkPut(t, up, l, args, pc)
			checkPair(t, up, l, pc)
			var caps [7]int
			for i := range caps {
				caps[i] = r.Intn(len(up))
			}
			checkCap(t, up, caps, l, r.Intn(len(up)))
		}
	}
}

// TestTwice: a label that is put twice is put by what was put.
func TestTwice(t *testing.T) {
	r := rand.New(rand.NewSource(21))
	for _, up := range small(t) {
		for range 1000 {
			n, m := r.Intn(7), r.Intn(7)
			l, args, pc := chance(r, up, n), several(r, up, n, m), chance(r, up, m)
			outer, place := several(r, up, m, 6), chance(r, up, 6)
			first, ok := sym.Put(up, l, args, pc)
			once, ok2 := sym.Put(up, first, outer, place)
			var inner []api.Label
			for _, a := range append(args, pc) {
				b, _ := sym.Put(up, a, outer, place)
				inner = append(inner, b)
			}
			twice, ok3 := sym.Put(up, l, inner[:n], inner[n])
			if once != twice || !ok || !ok2 || !ok3 {
				t.Fatalf("P19.4: %v put with %v, %v and then with %v, %v: %v and %v", l, args, pc, outer, place, once, twice)
			}
			var levels, lows []int
			for _, a := range outer {
				levels = append(levels, a.Level)
			}
			for _, a := range append(args, pc) {
				low, _ := sym.Low(up, a, levels, place.Level)
				lows = append(lows, low)
			}
			a, ok := sym.Low(up, first, levels, place.Level)
			b, ok2 := sym.Low(up, l, lows[:n], lows[n])
			if a != b || a != once.Level || !ok || !ok2 {
				t.Fatalf("P19.4: Low of %v put with %v, %v is %d, by the Lows %d", l, args, pc, a, b)
			}
		}
	}
}

// TestCapsTell: a label becomes what is at or below a bound just if its level is, and what its bits stand for is at or below the caps.
func TestCapsTell(t *testing.T) {
	r := rand.New(rand.NewSource(22))
	right := 0
	for _, up := range small(t) {
		top := join(up, levels(up)...)
		for range 1000 {
			n := r.Intn(7)
			l, bound, pc := chance(r, up, n), r.Intn(len(up)), r.Intn(len(up))
			args := make([]int, n)
			for i := range args {
				args[i] = r.Intn(len(up))
			}
			caps, ok := sym.Cap(up, [7]int{top, top, top, top, top, top, top}, l, bound)
			low, ok2 := sym.Low(up, l, args, pc)
			tell := below(up, l.Level, bound) && below(up, pc, caps[6])
			for i, a := range args {
				tell = tell && below(up, a, caps[i])
			}
			if tell != below(up, low, bound) || !ok || !ok2 {
				t.Fatalf("P19.4: %v with %v, %d is %d, under %d; caps %v of %v", l, args, pc, low, bound, caps, up)
			}
			if tell {
				right++
			}
		}
	}
	if right < 1000 {
		t.Errorf("the test's own labels are under their bounds only %d times", right)
	}
}

// levels are all of a lattice.
func levels(up []uint64) []int {
	var l []int
	for i := range up {
		l = append(l, i)
	}
	return l
}
