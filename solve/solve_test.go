package solve_test

import (
	"math"
	"math/rand"
	"slices"
	"testing"

	"interdict/api"
	"interdict/lattice"
	"interdict/solve"
)

// order is the lattice of some pairs.
func order(t *testing.T, n int, pairs ...[2]int) []uint64 {
	t.Helper()
	up, e := lattice.Build(n, pairs)
	if e != api.OK {
		t.Fatalf("the test's own order %v is refused: %d", pairs, e)
	}
	return up
}

// chain is the lattice of n levels each of which stands above the one ahead of it.
func chain(t *testing.T, n int) []uint64 {
	t.Helper()
	var pairs [][2]int
	for i := range n - 1 {
		pairs = append(pairs, [2]int{i, i + 1})
	}
	return order(t, n, pairs...)
}

// sets is the lattice of all sets of some things.
func sets(t *testing.T, things int) []uint64 {
	t.Helper()
	var pairs [][2]int
	for a := range 1 << things {
		for thing := range things {
			pairs = append(pairs, [2]int{a, a | 1<<thing})
		}
	}
	return order(t, 1<<things, pairs...)
}

// small are a few lattices, with numbers in no order of theirs, too.
func small(t *testing.T) [][]uint64 {
	t.Helper()
	return [][]uint64{
		chain(t, 1), chain(t, 2), chain(t, 3),
		order(t, 2, [2]int{1, 0}),
		order(t, 4, [2]int{0, 1}, [2]int{0, 2}, [2]int{1, 3}, [2]int{2, 3}),
		order(t, 4, [2]int{2, 1}, [2]int{2, 3}, [2]int{1, 0}, [2]int{3, 0}),
		// Three levels beside one another, and a chain beside a level: neither is a lattice of sets.
		order(t, 5, [2]int{0, 1}, [2]int{0, 2}, [2]int{0, 3}, [2]int{1, 4}, [2]int{2, 4}, [2]int{3, 4}),
		order(t, 5, [2]int{4, 3}, [2]int{3, 2}, [2]int{2, 0}, [2]int{4, 1}, [2]int{1, 0}),
	}
}

// leq: does b stand at or above a?
func leq(up []uint64, a, b int) bool { return up[a]>>b&1 == 1 }

// joined is the level above two that is below each that is above both.
func joined(up []uint64, a, b int) int {
	for c := range up {
		least := leq(up, a, c) && leq(up, b, c)
		for d := range up {
			if leq(up, a, d) && leq(up, b, d) && !leq(up, c, d) {
				least = false
			}
		}
		if least {
			return c
		}
	}
	return -1
}

// together is the join of two labels.
func together(up []uint64, a, b api.Label) api.Label {
	return api.Label{Level: joined(up, a.Level, b.Level), Mask: a.Mask | b.Mask}
}

// below: is a at or below b?
func below(up []uint64, a, b api.Label) bool {
	return leq(up, a.Level, b.Level) && a.Mask&b.Mask == a.Mask
}

// allBelow: is each label of a list at or below that of another one?
func allBelow(up []uint64, a, b []api.Label) bool {
	for i := range a {
		if !below(up, a[i], b[i]) {
			return false
		}
	}
	return len(a) == len(b)
}

// says is what a system's equations say of some labels.
func says(up []uint64, s solve.System, l []api.Label) []api.Label {
	all := slices.Clone(s.Const)
	for i, needs := range s.Needs {
		for _, j := range needs {
			all[i] = together(up, all[i], l[j])
		}
	}
	return all
}

// least is the least solution, found by asking all equations again till they say what they did.
func least(up []uint64, s solve.System) []api.Label {
	l := slices.Clone(s.Const)
	for {
		next := says(up, s, l)
		if slices.Equal(next, l) {
			return l
		}
		l = next
	}
}

// right: may a lattice's system be?
func right(up []uint64, s solve.System) bool {
	if len(s.Const) > 16384 || len(s.Const) != len(s.Needs) {
		return false
	}
	for _, c := range s.Const {
		if c.Level < 0 || c.Level >= len(up) {
			return false
		}
	}
	return !slices.ContainsFunc(s.Needs, func(needs []int) bool {
		return slices.ContainsFunc(needs, func(j int) bool { return j < 0 || j >= len(s.Const) })
	})
}

// most is the chapter's formula, with the height as the longest way up.
func most(up []uint64, s solve.System) int {
	fan := 0
	for i := range s.Const {
		times := 0
		for _, needs := range s.Needs {
			for _, j := range needs {
				if j == i {
					times++
				}
			}
		}
		fan = max(fan, times)
	}
	var height func(a int) int
	height = func(a int) int {
		h := 0
		for b := range up {
			if b != a && leq(up, a, b) {
				h = max(h, 1+height(b))
			}
		}
		return h
	}
	h := 0
	for a := range up {
		h = max(h, height(a))
	}
	return len(s.Const) + len(s.Const)*fan*(h+64)
}

// copied is the same system in other memory.
func copied(s solve.System) solve.System {
	c := solve.System{Const: slices.Clone(s.Const)}
	for _, needs := range s.Needs {
		c.Needs = append(c.Needs, slices.Clone(needs))
	}
	return c
}

// same: are two systems the same?
func same(a, b solve.System) bool {
	return slices.Equal(a.Const, b.Const) && slices.EqualFunc(a.Needs, b.Needs, func(x, y []int) bool { return slices.Equal(x, y) })
}

// check holds what is said of a system against the chapter, and tells the solution.
func check(t *testing.T, up []uint64, s solve.System) []api.Label {
	t.Helper()
	levels, before := slices.Clone(up), copied(s)
	defer func() {
		t.Helper()
		if !slices.Equal(up, levels) || !same(s, before) {
			t.Fatalf("R4: what was handed in is changed: %v, %v, was %v, %v", up, s, levels, before)
		}
	}()
	if !right(up, s) {
		refused(t, up, s)
		return nil
	}
	if !solve.Right(up, s) {
		t.Fatalf("P17.1: Right(%v, %v) is false", up, s)
	}
	want := least(up, s)
	l, n, e := solve.Solve(up, s)
	if e != api.OK || !slices.Equal(l, want) {
		t.Fatalf("P17.1: Solve(%v, %v) = %v, %d, want %v", up, s, l, e, want)
	}
	enough := most(up, s)
	if got := solve.Most(up, s); got != enough {
		t.Fatalf("P17.2: Most(%v, %v) = %d, want %d", up, s, got, enough)
	}
	if n < len(s.Const) || n > enough {
		t.Fatalf("P6, P17.1: Solve(%v, %v) took %d looks, want from %d to %d", up, s, n, len(s.Const), enough)
	}
	if again, m, _ := solve.Solve(up, s); !slices.Equal(again, l) || m != n {
		t.Fatalf("R5: Solve(%v, %v) = %v, %d, then %v, %d", up, s, l, n, again, m)
	}
	if !solve.Bounds(up, s, l) {
		t.Fatalf("P17.1: Bounds(%v, %v) of the least solution %v is false", up, s, l)
	}
	return l
}

// refused holds what is said of a system that may not be.
func refused(t *testing.T, up []uint64, s solve.System) {
	t.Helper()
	if solve.Right(up, s) {
		t.Fatalf("P17.1: Right(%v, %v)", up, s)
	}
	if l, n, e := solve.Solve(up, s); len(l) != 0 || n != 0 || e != api.ErrArg {
		t.Fatalf("P17.1: Solve(%v, %v) = %v, %d, %d, want ErrArg", up, s, l, n, e)
	}
	if n := solve.Most(up, s); n != 0 {
		t.Fatalf("P17.2: Most(%v, %v) = %d, want 0", up, s, n)
	}
	if solve.Bounds(up, s, make([]api.Label, len(s.Const))) || solve.Bounds(up, s, slices.Clone(s.Const)) || solve.Bounds(up, s, nil) {
		t.Fatalf("P17.1: Bounds(%v, %v)", up, s)
	}
}

func TestExamples(t *testing.T) {
	two := chain(t, 2)
	diamond := order(t, 4, [2]int{0, 1}, [2]int{0, 2}, [2]int{1, 3}, [2]int{2, 3})
	label := func(level int, mask uint64) api.Label { return api.Label{Level: level, Mask: mask} }
	for _, c := range []struct {
		up   []uint64
		s    solve.System
		want []api.Label
		most int
	}{
		{two, solve.System{Const: []api.Label{label(0, 0), label(1, 0), label(0, 4)}, Needs: [][]int{{1}, {2}, nil}}, []api.Label{label(1, 4), label(1, 4), label(0, 4)}, 3 + 3*1*65},
		// No equation, and one.
		{two, solve.System{}, nil, 0},
		{two, solve.System{Const: []api.Label{label(1, 7)}, Needs: [][]int{nil}}, []api.Label{label(1, 7)}, 1},
		{chain(t, 1), solve.System{Const: []api.Label{label(0, 7)}, Needs: [][]int{{0}}}, []api.Label{label(0, 7)}, 1 + 1*1*64},
		// A value that needs itself, or one several times: each time counts for the fan.
		{two, solve.System{Const: []api.Label{label(0, 2), label(1, 1)}, Needs: [][]int{{0, 0, 1}, {1, 0}}}, []api.Label{label(1, 3), label(1, 3)}, 2 + 2*3*65},
		// What is not needed to be greater stays least, round a circle too.
		{two, solve.System{Const: []api.Label{label(0, 0), label(0, 0), label(1, 1)}, Needs: [][]int{{1}, {0}, {0, 1}}}, []api.Label{label(0, 0), label(0, 0), label(1, 1)}, 3 + 3*2*65},
		// A join that is neither of two; masks that have all bits.
		{diamond, solve.System{Const: []api.Label{label(0, 0), label(1, 1<<63), label(2, 1<<63-1)}, Needs: [][]int{{1, 2}, nil, nil}}, []api.Label{label(3, math.MaxUint64), label(1, 1<<63), label(2, 1<<63-1)}, 3 + 3*1*66},
		{diamond, solve.System{Const: []api.Label{label(1, 0), label(2, 0)}, Needs: [][]int{{1}, {0}}}, []api.Label{label(3, 0), label(3, 0)}, 2 + 2*1*66},
	} {
		if l, _, e := solve.Solve(c.up, c.s); e != api.OK || !slices.Equal(l, c.want) {
			t.Errorf("P17.1: Solve(%v, %v) = %v, %d, want %v", c.up, c.s, l, e, c.want)
		}
		if n := solve.Most(c.up, c.s); n != c.most {
			t.Errorf("P17.2: Most(%v, %v) = %d, want %d", c.up, c.s, n, c.most)
		}
		check(t, c.up, c.s)
	}
}

// TestEmpty: nothing is as good as a list of length 0.
func TestEmpty(t *testing.T) {
	up := chain(t, 2)
	for _, s := range []solve.System{{}, {Const: []api.Label{}, Needs: [][]int{}}, {Const: []api.Label{}}, {Needs: [][]int{}}} {
		if l, n, e := solve.Solve(up, s); len(l) != 0 || n != 0 || e != api.OK {
			t.Errorf("P17.1: Solve(%v) = %v, %d, %d", s, l, n, e)
		}
		if !solve.Right(up, s) || !solve.Bounds(up, s, nil) || !solve.Bounds(up, s, []api.Label{}) || solve.Bounds(up, s, make([]api.Label, 1)) || solve.Most(up, s) != 0 {
			t.Errorf("R3: of %v", s)
		}
	}
	one := solve.System{Const: make([]api.Label, 1), Needs: [][]int{{}}}
	if l, n, e := solve.Solve(up, one); len(l) != 1 || n != 1 || e != api.OK {
		t.Errorf("R3: Solve(%v) = %v, %d, %d", one, l, n, e)
	}
}

func TestWrong(t *testing.T) {
	up := order(t, 4, [2]int{0, 1}, [2]int{0, 2}, [2]int{1, 3}, [2]int{2, 3})
	s := solve.System{Const: make([]api.Label, 3), Needs: [][]int{{1}, {2}, nil}}
	check(t, up, s)
	for _, wrong := range [][]uint64{nil, {}, {0}, {3}, {1, 2}, {3, 3}, {3, 2, 4}, {7, 2, 4}, {15, 10, 12, 4}, {15, 10, 12, 24}, make([]uint64, 65), append(chain(t, 64), 0)} {
		refused(t, wrong, s)
		refused(t, wrong, solve.System{})
	}
	for _, level := range []int{-1, 4, 63, 64, math.MaxInt, math.MinInt} {
		for i := range s.Const {
			wrong := copied(s)
			wrong.Const[i].Level = level
			refused(t, up, wrong)
		}
		l := make([]api.Label, 3)
		l[2].Level = level
		if solve.Bounds(up, s, l) {
			t.Errorf("P17.1: Bounds of labels with the level %d", level)
		}
	}
	for _, j := range []int{-1, 3, 4, 16384, math.MaxInt, math.MinInt} {
		for i := range s.Needs {
			wrong := copied(s)
			wrong.Needs[i] = append(wrong.Needs[i], 0, j)
			refused(t, up, wrong)
		}
	}
	for _, wrong := range []solve.System{
		{Const: s.Const}, {Needs: s.Needs}, {Const: s.Const[:2], Needs: s.Needs}, {Const: s.Const, Needs: s.Needs[:2]},
		{Const: s.Const, Needs: append(copied(s).Needs, nil)}, {Const: nil, Needs: [][]int{nil}}, {Const: make([]api.Label, 1)},
	} {
		refused(t, up, wrong)
	}
}

// TestLimit: as many values as there may be, and one more.
func TestLimit(t *testing.T) {
	up := chain(t, 2)
	for _, n := range []int{16383, 16384, 16385, 20000} {
		s := solve.System{Const: make([]api.Label, n), Needs: make([][]int, n)}
		if n > 16384 {
			refused(t, up, s)
			continue
		}
		if l, looks, e := solve.Solve(up, s); e != api.OK || !slices.Equal(l, s.Const) || looks != n || solve.Most(up, s) != n {
			t.Errorf("P17.1: of %d values without needs: %d, %d looks", n, e, looks)
		}
		if !solve.Bounds(up, s, s.Const) || solve.Bounds(up, s, s.Const[1:]) || solve.Bounds(up, s, make([]api.Label, n+1)) {
			t.Errorf("P17.1: Bounds of %d values", n)
		}
	}
}

// labels are all labels of a lattice with masks of so many bits.
func labels(up []uint64, bits int) []api.Label {
	var l []api.Label
	for level := range up {
		for m := range uint64(1) << bits {
			l = append(l, api.Label{Level: level, Mask: m})
		}
	}
	return l
}

// TestLeast holds the solution of small systems against all labels that there are, and Bounds of each of these against the equations.
func TestLeast(t *testing.T) {
	r := rand.New(rand.NewSource(17))
	for _, up := range small(t) {
		all := labels(up, 1)
		for range 60 {
			s := chance(r, up, 1+r.Intn(3), 2)
			for i := range s.Const {
				s.Const[i].Mask &= 1
			}
			solution := check(t, up, s)
			n := len(s.Const)
			l := make([]api.Label, n)
			many := 1
			for range n {
				many *= len(all)
			}
			for k := range many {
				for i := range l {
					l[i] = all[k%len(all)]
					k /= len(all)
				}
				want := says(up, s, l)
				if slices.Equal(want, l) && !allBelow(up, solution, l) {
					t.Fatalf("P17.1: Solve(%v, %v) = %v, but %v is a solution, too", up, s, solution, l)
				}
				if got := solve.Bounds(up, s, l); got != allBelow(up, want, l) {
					t.Fatalf("P17.1: Bounds(%v, %v, %v) = %v", up, s, l, got)
				}
			}
		}
	}
}

// TestBounds: bounds may be above the equations' joins, and no solutions; but nowhere below them.
func TestBounds(t *testing.T) {
	up := order(t, 4, [2]int{0, 1}, [2]int{0, 2}, [2]int{1, 3}, [2]int{2, 3})
	label := func(level int, mask uint64) api.Label { return api.Label{Level: level, Mask: mask} }
	s := solve.System{Const: []api.Label{label(0, 1), label(1, 6)}, Needs: [][]int{{1}, nil}}
	for _, c := range []struct {
		l    []api.Label
		want bool
	}{
		{[]api.Label{label(1, 7), label(1, 6)}, true},
		{[]api.Label{label(3, 1<<63|7), label(1, 6)}, true},
		{[]api.Label{label(3, 7), label(3, 7)}, true},
		{[]api.Label{label(3, 15), label(1, 14)}, true},
		{[]api.Label{label(3, 7), label(1, 14)}, false},
		{[]api.Label{label(1, 7), label(3, 6)}, false},
		{[]api.Label{label(0, 7), label(1, 6)}, false},
		{[]api.Label{label(2, 7), label(1, 6)}, false},
		{[]api.Label{label(1, 6), label(1, 6)}, false},
		{[]api.Label{label(1, 3), label(1, 6)}, false},
		{[]api.Label{label(3, 7), label(2, 6)}, false},
		{[]api.Label{label(3, 7), label(1, 2)}, false},
		{[]api.Label{label(1, 7)}, false}, {nil, false},
		{[]api.Label{label(1, 7), label(1, 6), label(3, 7)}, false},
	} {
		if got := solve.Bounds(up, s, c.l); got != c.want {
			t.Errorf("P17.1: Bounds(%v, %v) = %v", s, c.l, got)
		}
	}
}

// chance is a system of n values, each of which needs so many at most.
func chance(r *rand.Rand, up []uint64, n, needs int) solve.System {
	var s solve.System
	for range n {
		c := api.Label{Level: r.Intn(len(up))}
		if r.Intn(2) == 0 {
			c.Level, _ = lattice.Bottom(up)
		}
		for range r.Intn(3) {
			c.Mask |= 1 << r.Intn(64)
		}
		var l []int
		for range r.Intn(needs + 1) {
			l = append(l, r.Intn(n))
		}
		s.Const, s.Needs = append(s.Const, c), append(s.Needs, l)
	}
	return s
}

func TestByChance(t *testing.T) {
	r := rand.New(rand.NewSource(18))
	for _, up := range append(small(t), chain(t, 8), sets(t, 3), sets(t, 4)) {
		for range 300 {
			check(t, up, chance(r, up, r.Intn(12), 1+r.Intn(4)))
		}
		for range 5 {
			check(t, up, chance(r, up, 60+r.Intn(60), 1+r.Intn(2)))
		}
		for range 100 {
			s := chance(r, up, 1+r.Intn(4), 3)
			i := r.Intn(len(s.Const))
			if r.Intn(2) == 0 {
				s.Const[i].Level = []int{-1, len(up), 64, math.MaxInt, math.MinInt}[r.Intn(5)]
			} else {
				s.Needs[i] = append(s.Needs[i], []int{-1, len(s.Const), math.MaxInt, math.MinInt}[r.Intn(4)])
			}
			check(t, up, s)
		}
	}
}

// TestGreat: the greatest systems are solved within the looks that are enough, whatever the order of their values.
func TestGreat(t *testing.T) {
	const n = 16384
	up := chain(t, 64)
	r := rand.New(rand.NewSource(19))
	full := api.Label{Level: 63, Mask: math.MaxUint64}
	// Some values have a bit, some a level that no other one has: so each value may grow as often as one can.
	ring := func(needs func(i int) []int) solve.System {
		s := solve.System{Const: make([]api.Label, n)}
		for k := range 64 {
			s.Const[r.Intn(n/128)*128+k].Mask |= 1 << k
			s.Const[r.Intn(n/128)*128+64+k].Level = k
		}
		for i := range n {
			s.Needs = append(s.Needs, needs(i))
		}
		return s
	}
	for name, s := range map[string]solve.System{
		"forwards":    ring(func(i int) []int { return []int{(i + n - 1) % n} }),
		"backwards":   ring(func(i int) []int { return []int{(i + 1) % n} }),
		"both ways":   ring(func(i int) []int { return []int{(i + n - 1) % n, (i + 1) % n} }),
		"by leaps":    ring(func(i int) []int { return []int{(i + 4099) % n} }),
		"round a hub": ring(hub(n)),
	} {
		l, looks, e := solve.Solve(up, s)
		if e != api.OK || !slices.Equal(l, slices.Repeat([]api.Label{full}, n)) {
			t.Errorf("P17.1: %s: %d, not all are full", name, e)
		}
		if enough := solve.Most(up, s); looks < n || looks > enough {
			t.Errorf("P6, P17.1: %s: %d looks, want from %d to %d", name, looks, n, enough)
		}
		if !solve.Bounds(up, s, l) || solve.Bounds(up, s, s.Const) {
			t.Errorf("P17.1: %s: Bounds", name)
		}
		l[r.Intn(n)].Mask &^= 1 << r.Intn(64)
		if solve.Bounds(up, s, l) {
			t.Errorf("P17.1: %s: Bounds of labels one of which has a bit less", name)
		}
	}
}

// hub lets the value 0 need all of n, and each other one it, and itself or the one ahead of it.
func hub(n int) func(i int) []int {
	return func(i int) []int {
		if i > 0 {
			return []int{0, i - i%2}
		}
		var l []int
		for j := range n {
			l = append(l, j)
		}
		return l
	}
}

// TestMost: the formula, at the greatest lattices and systems.
func TestMost(t *testing.T) {
	for _, c := range []struct {
		up     []uint64
		height int
	}{{chain(t, 1), 0}, {chain(t, 2), 1}, {chain(t, 64), 63}, {sets(t, 6), 6}, {order(t, 3, [2]int{2, 0}, [2]int{0, 1}), 2}} {
		for _, fan := range []int{0, 1, 2, 5, 1000} {
			// The value 2 is needed most often, by several, and by one of them more than once.
			s := solve.System{Const: make([]api.Label, 7), Needs: [][]int{{1, 3}, slices.Repeat([]int{2}, fan/2), nil, slices.Repeat([]int{2}, fan-fan/2), nil, nil, nil}}
			if fan == 0 {
				s.Needs[0] = nil
			}
			if got, want := solve.Most(c.up, s), 7+7*fan*(c.height+64); got != want {
				t.Errorf("P17.2: Most of a fan of %d and a height of %d is %d, want %d", fan, c.height, got, want)
			}
		}
	}
	up := chain(t, 64)
	s := solve.System{Const: make([]api.Label, 16384), Needs: slices.Repeat([][]int{{5, 5, 5}}, 16384)}
	if got, want := solve.Most(up, s), 16384+16384*3*16384*127; got != want {
		t.Errorf("P17.2: Most of the greatest system is %d, want %d", got, want)
	}
}

func TestWhatIsHandedIn(t *testing.T) {
	room := func(l ...int) []int { return append(l, 77, 78)[:len(l)] }
	up := append(chain(t, 2), 77)[:2]
	constants := []api.Label{{Level: 0, Mask: 1}, {Level: 1, Mask: 2}, {Level: 0, Mask: 4}, {Level: 77}}
	needs := append([][]int{room(1, 2), room(2, 0), room()}, []int{9}, nil)
	s := solve.System{Const: constants[:3], Needs: needs[:3]}
	l := check(t, up, s)
	for i, n := range s.Needs {
		if behind := n[len(n) : len(n)+2]; behind[0] != 77 || behind[1] != 78 {
			t.Errorf("R4: behind the needs of %d stands %v", i, behind)
		}
	}
	if up[:3][2] != 77 || constants[3].Level != 77 || !slices.Equal(needs[3], []int{9}) || needs[4] != nil {
		t.Error("R4: what stood behind the lists is changed")
	}
	before := slices.Clone(l)
	other, _, _ := solve.Solve(up, s)
	for _, answer := range [][]api.Label{other[:cap(other)], s.Const} {
		for i := range answer {
			answer[i] = api.Label{Level: 1, Mask: 1 << 50}
		}
	}
	if !slices.Equal(l, before) {
		t.Errorf("R4: an answer shares memory: %v, was %v", l, before)
	}
}
