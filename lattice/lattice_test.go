package lattice_test

import (
	"math"
	"math/rand"
	"slices"
	"testing"

	"interdict/api"
	"interdict/lattice"
)

// above tells from a mask's bits whether b stands at or above a.
func above(up []uint64, a, b int) bool { return up[a]>>b%2 == 1 }

// orderly is the chapter's 'it may be', condition by condition.
func orderly(up []uint64) bool {
	n := len(up)
	if n < 1 || n > 64 {
		return false
	}
	for a := range n {
		if !above(up, a, a) {
			return false
		}
		for b := n; b < 64; b++ {
			if above(up, a, b) {
				return false
			}
		}
		for b := range n {
			if a != b && above(up, a, b) && above(up, b, a) {
				return false
			}
			for c := range n {
				if above(up, a, b) && above(up, b, c) && !above(up, a, c) {
					return false
				}
			}
		}
	}
	return true
}

// join looks for a level above a and b that is below each that is above both; with the order turned, that is the meet.
func join(n int, leq func(a, b int) bool, a, b int) (int, bool) {
	var both []int
	for c := range n {
		if leq(a, c) && leq(b, c) {
			both = append(both, c)
		}
	}
	for _, c := range both {
		if !slices.ContainsFunc(both, func(d int) bool { return !leq(c, d) }) {
			return c, true
		}
	}
	return 0, false
}

// both are the order of up, and the same turned.
func both(up []uint64) (leq, geq func(a, b int) bool) {
	return func(a, b int) bool { return above(up, a, b) }, func(a, b int) bool { return above(up, b, a) }
}

// right is the chapter's 'lattice'.
func right(up []uint64) bool {
	if !orderly(up) {
		return false
	}
	leq, geq := both(up)
	for a := range up {
		for b := range up {
			_, ok := join(len(up), leq, a, b)
			_, is := join(len(up), geq, a, b)
			if !ok || !is {
				return false
			}
		}
	}
	return true
}

// chain tells how many levels the longest chain has that begins at a.
func chain(up []uint64, a int, known map[int]int) int {
	if known[a] == 0 {
		most := 0
		for b := range up {
			if a != b && above(up, a, b) {
				most = max(most, chain(up, b, known))
			}
		}
		known[a] = most + 1
	}
	return known[a]
}

// covers are the pairs between which nothing stands.
func covers(up []uint64) [][2]int {
	var l [][2]int
	for a := range up {
		for b := range up {
			between := false
			for c := range up {
				between = between || c != a && c != b && above(up, a, c) && above(up, c, b)
			}
			if a != b && above(up, a, b) && !between {
				l = append(l, [2]int{a, b})
			}
		}
	}
	return l
}

// far are numbers of no level.
var far = []int{-1, 64, 65, -64, 1 << 32, -1 << 32, math.MaxInt, math.MinInt}

// checkWhole holds all but the calls of two levels against the chapter, and says whether up is a lattice.
func checkWhole(t *testing.T, up []uint64) bool {
	t.Helper()
	is := right(up)
	if lattice.Right(up) != is {
		t.Fatalf("P5.1: Right(%#x) = %v", up, !is)
	}
	bottom, top, height := 0, 0, 0
	var pairs [][2]int
	if is {
		leq, geq := both(up)
		known := map[int]int{}
		for a := range up {
			bottom, _ = join(len(up), geq, a, bottom)
			top, _ = join(len(up), leq, a, top)
			height = max(height, chain(up, a, known)-1)
		}
		pairs = covers(up)
	}
	if a, ok := lattice.Bottom(up); a != bottom || ok != is {
		t.Fatalf("P5.2: Bottom(%#x) = %d, %v, want %d, %v", up, a, ok, bottom, is)
	}
	if a, ok := lattice.Top(up); a != top || ok != is {
		t.Fatalf("P5.2: Top(%#x) = %d, %v, want %d, %v", up, a, ok, top, is)
	}
	if h := lattice.Height(up); h != height {
		t.Fatalf("P5.2: Height(%#x) = %d, want %d", up, h, height)
	}
	if l := lattice.Covers(up); !slices.Equal(l, pairs) {
		t.Fatalf("P5.3: Covers(%#x) = %v, want %v", up, l, pairs)
	}
	if back, e := lattice.Build(len(up), pairs); is && (e != api.OK || !slices.Equal(back, up)) {
		t.Fatalf("P5.3: Build of the covers of %#x = %#x, %d", up, back, e)
	}
	return is
}

// checkTwo holds the calls of two levels against the chapter; is says whether up is a lattice.
func checkTwo(t *testing.T, up []uint64, a, b int, is bool) {
	t.Helper()
	is = is && min(a, b) >= 0 && max(a, b) < len(up)
	stands, least, greatest := false, 0, 0
	if is {
		leq, geq := both(up)
		stands = leq(a, b)
		least, _ = join(len(up), leq, a, b)
		greatest, _ = join(len(up), geq, a, b)
	}
	if got := lattice.Leq(up, a, b); got != stands {
		t.Fatalf("P5.2: Leq(%#x, %d, %d) = %v", up, a, b, got)
	}
	if c, ok := lattice.Join(up, a, b); c != least || ok != is {
		t.Fatalf("P5.2: Join(%#x, %d, %d) = %d, %v, want %d, %v", up, a, b, c, ok, least, is)
	}
	if c, ok := lattice.Meet(up, a, b); c != greatest || ok != is {
		t.Fatalf("P5.2: Meet(%#x, %d, %d) = %d, %v, want %d, %v", up, a, b, c, ok, greatest, is)
	}
}

// masks hands all lists of n masks of some bits to f.
func masks(n, bits int, f func([]uint64)) {
	up := make([]uint64, n)
	for m := range uint64(1) << (n * bits) {
		for i := range n {
			up[i] = m >> (i * bits) % (1 << bits)
		}
		f(up)
	}
}

func TestAllSmallMasks(t *testing.T) {
	// All masks of up to three levels and one bit that is no level's; all of four levels.
	for _, size := range [][2]int{{0, 0}, {1, 2}, {2, 3}, {3, 4}, {4, 4}} {
		lattices := 0
		masks(size[0], size[1], func(up []uint64) {
			is := checkWhole(t, up)
			if is {
				lattices++
			}
			for a := -1; a <= len(up); a++ {
				for b := -1; b <= len(up); b++ {
					checkTwo(t, up, a, b, is)
				}
			}
		})
		// Of so many levels there are so many lattices, numbered: 1, 2, 6, 36.
		if want := []int{0, 1, 2, 6, 36}[size[0]]; lattices != want {
			t.Errorf("P5.1: %d lattices of %d levels, want %d", lattices, size[0], want)
		}
	}
}

// closed are the masks of the least order of pairs, put together till nothing changes; whether it may be is not asked.
func closed(n int, pairs [][2]int) []uint64 {
	up := make([]uint64, n)
	for i := range n {
		up[i] = 1 << i
	}
	for changed := true; changed; {
		changed = false
		for _, p := range pairs {
			more := up[p[0]] | up[p[1]]
			changed = changed || more != up[p[0]]
			up[p[0]] = more
		}
	}
	return up
}

// checkBuild holds Build of pairs of levels against the chapter.
func checkBuild(t *testing.T, n int, pairs [][2]int) {
	t.Helper()
	want, wantE := closed(n, pairs), api.OK
	if !right(want) {
		want, wantE = nil, api.ErrOrder
	}
	if up, e := lattice.Build(n, pairs); e != wantE || !slices.Equal(up, want) {
		t.Fatalf("P5.1: Build(%d, %v) = %#x, %d, want %#x, %d", n, pairs, up, e, want, wantE)
	}
}

func TestBuildOfAllSmallPairs(t *testing.T) {
	for n := 1; n <= 4; n++ {
		for set := range 1 << (n * n) {
			var pairs [][2]int
			for k := range n * n {
				if set>>k%2 == 1 {
					pairs = append(pairs, [2]int{k / n, k % n})
				}
			}
			checkBuild(t, n, pairs)
		}
	}
}

func TestBuildOfSomePairs(t *testing.T) {
	r := rand.New(rand.NewSource(5))
	lattices := 0
	for range 20000 {
		n := 5 + r.Intn(5)
		// A bottom and a top, or else hardly any is a lattice.
		var pairs [][2]int
		for i := range n {
			pairs = append(pairs, [2]int{0, i}, [2]int{i, n - 1})
		}
		for range r.Intn(2 * n) {
			a, b := r.Intn(n), r.Intn(n)
			if r.Intn(20) > 0 {
				a, b = min(a, b), max(a, b)
			}
			pairs = append(pairs, [2]int{a, b})
		}
		name := r.Perm(n)
		for k, p := range pairs {
			pairs[k] = [2]int{name[p[0]], name[p[1]]}
		}
		r.Shuffle(len(pairs), func(i, j int) { pairs[i], pairs[j] = pairs[j], pairs[i] })
		checkBuild(t, n, pairs)
		if checkWhole(t, closed(n, pairs)) {
			lattices++
		}
	}
	if lattices < 1000 || lattices > 19000 {
		t.Errorf("the test's own orders are lattices %d times", lattices)
	}
}

// of makes masks of an order of n levels.
func of(n int, leq func(a, b int) bool) []uint64 {
	up := make([]uint64, n)
	for a := range n {
		for b := range n {
			if leq(a, b) {
				up[a] |= 1 << b
			}
		}
	}
	return up
}

// plane is the order of a projective plane's points and lines, 31 of each, with a bottom and a top: of 64 levels.
func plane() []uint64 {
	on := func(point, line int) bool {
		// A set of six numbers that differ, each two, by another number round 31.
		return slices.Contains([]int{1, 5, 11, 24, 25, 27}, (line-point+31)%31)
	}
	return of(64, func(a, b int) bool {
		return a == b || a == 62 || b == 63 || a < 31 && b >= 31 && b < 62 && on(a, b-31)
	})
}

// moore are some sets of numbers, all that they have in common, and the set of all, by what is in what.
func moore(r *rand.Rand, most int) []uint64 {
	sets := []int{255}
	for len(sets) < most {
		more := append(slices.Clone(sets), r.Intn(256))
		for i := 0; i < len(more); i++ {
			for j := range i {
				if m := more[i] & more[j]; !slices.Contains(more, m) {
					more = append(more, m)
				}
			}
		}
		slices.Sort(more)
		more = slices.Compact(more)
		if len(more) > most {
			break
		}
		sets = more
	}
	return of(len(sets), func(a, b int) bool { return sets[a]&sets[b] == sets[a] })
}

// shuffled is the same order with other numbers.
func shuffled(r *rand.Rand, up []uint64) []uint64 {
	name := r.Perm(len(up))
	return of(len(up), func(a, b int) bool { return above(up, name[a], name[b]) })
}

// great are lattices of many levels.
func great(r *rand.Rand) [][]uint64 {
	l := [][]uint64{
		of(64, func(a, b int) bool { return a <= b }),
		of(64, func(a, b int) bool { return a >= b }),
		of(63, func(a, b int) bool { return a <= b }),
		of(64, func(a, b int) bool { return a == b || a == 0 || b == 63 }),
		of(64, func(a, b int) bool { return a == b || a == 63 || b == 0 }),
		of(64, func(a, b int) bool { return a&b == a }),
		of(64, func(a, b int) bool { return a%8 <= b%8 && a/8 <= b/8 }),
		of(64, func(a, b int) bool { return (b+1)%(a+1) == 0 || b == 63 }),
		plane(),
		of(36, func(a, b int) bool { return a%4 <= b%4 && a/4%3 <= b/4%3 && a/12 <= b/12 }),
	}
	for _, up := range slices.Clone(l) {
		l = append(l, shuffled(r, up))
	}
	for range 12 {
		l = append(l, shuffled(r, moore(r, 10+r.Intn(55))))
	}
	return l
}

func TestGreatLattices(t *testing.T) {
	r := rand.New(rand.NewSource(7))
	for _, up := range great(r) {
		if !checkWhole(t, up) {
			t.Fatalf("the test's own order %#x is no lattice", up)
		}
		for range 150 {
			checkTwo(t, up, r.Intn(len(up)), r.Intn(len(up)), true)
		}
		checkTwo(t, up, len(up)-1, len(up)-1, true)
		for _, a := range append(far, len(up)) {
			checkTwo(t, up, a, 0, true)
			checkTwo(t, up, 0, a, true)
			checkTwo(t, up, a, a, true)
		}
	}
}

func TestGreatMasksThatAreNoLattice(t *testing.T) {
	r := rand.New(rand.NewSource(9))
	for _, up := range great(r) {
		for range 6 {
			a, b := r.Intn(len(up)), r.Intn(64)
			up[a] ^= 1 << b
			is := checkWhole(t, up)
			checkTwo(t, up, a, b, is)
			checkTwo(t, up, b, a, is)
			checkTwo(t, up, 0, 0, is)
			up[a] ^= 1 << b
		}
	}
	for range 40 {
		up := shuffled(r, moore(r, 12))
		for k := range len(up) * (len(up) + 1) {
			a, b := k%len(up), k/len(up)
			up[a] ^= 1 << b
			checkTwo(t, up, r.Intn(len(up)), r.Intn(len(up)), checkWhole(t, up))
			up[a] ^= 1 << b
		}
	}
}

func TestTooManyLevels(t *testing.T) {
	up := append(of(64, func(a, b int) bool { return a <= b }), 1<<63)
	for _, n := range []int{65, 66, 1000} {
		for len(up) < n {
			up = append(up, 0)
		}
		checkTwo(t, up, 0, 64, checkWhole(t, up))
		checkTwo(t, up, 0, 0, false)
	}
}

func TestNoJoinsBetweenABottomAndATop(t *testing.T) {
	// Two levels below two others, each below both: whatever is above the first two has no least one.
	crown := [][2]int{{0, 1}, {0, 2}, {1, 3}, {1, 4}, {2, 3}, {2, 4}, {3, 5}, {4, 5}}
	up, e := lattice.Build(6, crown)
	if e != api.ErrOrder || len(up) != 0 {
		t.Errorf("P5.1: %#x, %d", up, e)
	}
	checkTwo(t, closed(6, crown), 1, 2, checkWhole(t, closed(6, crown)))
	// With one between them it is there.
	checkBuild(t, 7, append(crown, [2]int{1, 6}, [2]int{2, 6}, [2]int{6, 3}, [2]int{6, 4}))
	middle := closed(7, append(crown, [2]int{1, 6}, [2]int{2, 6}, [2]int{6, 3}, [2]int{6, 4}))
	if c, ok := lattice.Join(middle, 1, 2); c != 6 || !ok {
		t.Errorf("P5.2: Join = %d, %v", c, ok)
	}
	if c, ok := lattice.Meet(middle, 3, 4); c != 6 || !ok {
		t.Errorf("P5.2: Meet = %d, %v", c, ok)
	}
}

func TestBuildOfGreatOnes(t *testing.T) {
	r := rand.New(rand.NewSource(11))
	for _, up := range great(r) {
		pairs := covers(up)
		for a := range up {
			b := r.Intn(len(up))
			if above(up, a, b) {
				pairs = append(pairs, [2]int{a, b})
			}
			pairs = append(pairs, [2]int{a, a})
		}
		r.Shuffle(len(pairs), func(i, j int) { pairs[i], pairs[j] = pairs[j], pairs[i] })
		if got, e := lattice.Build(len(up), pairs); e != api.OK || !slices.Equal(got, up) {
			t.Fatalf("P5.1: Build(%d, %v) = %#x, %d, want %#x", len(up), pairs, got, e, up)
		}
		top, _ := lattice.Top(up)
		bottom, _ := lattice.Bottom(up)
		if got, e := lattice.Build(len(up), append(pairs, [2]int{top, bottom})); e != api.ErrOrder || len(got) != 0 {
			t.Fatalf("P5.1: with the bottom above the top: %#x, %d", got, e)
		}
	}
}

func TestBuildOfMoreThanTheLongestList(t *testing.T) {
	var pairs [][2]int
	for k := range 300000 {
		pairs = append(pairs, [2]int{k % 63, k%63 + 1})
	}
	if up, e := lattice.Build(64, pairs); e != api.OK || lattice.Height(up) != 63 {
		t.Errorf("P5.1: %#x, %d", up, e)
	}
	if _, e := lattice.Build(64, append(pairs, [2]int{0, 64})); e != api.ErrArg {
		t.Errorf("P5.1: %d, want ErrArg", e)
	}
}

func TestBuildOfWrongArguments(t *testing.T) {
	for _, n := range []int{0, -1, 65, 66, -64, 1 << 32, 1<<32 + 1, math.MaxInt, math.MinInt} {
		for _, pairs := range [][][2]int{nil, {{0, 0}}, {{0, 1}}, {{0, n}}, {{0, 1}, {1, 0}}} {
			if up, e := lattice.Build(n, pairs); e != api.ErrArg || len(up) != 0 {
				t.Errorf("P5.1: Build(%d, %v) = %#x, %d, want ErrArg", n, pairs, up, e)
			}
		}
	}
	for _, n := range []int{1, 2, 3, 63, 64} {
		for _, i := range append(far, n) {
			if i >= 0 && i < n {
				continue
			}
			// A number that is no level's counts ahead of an order that may not be, wherever it stands.
			for _, pairs := range [][][2]int{{{0, i}}, {{i, 0}}, {{i, i}}, {{0, n - 1}, {n - 1, 0}, {i, 0}}, {{0, i}, {0, n - 1}, {n - 1, 0}}} {
				if up, e := lattice.Build(n, pairs); e != api.ErrArg || len(up) != 0 {
					t.Errorf("P5.1: Build(%d, %v) = %#x, %d, want ErrArg", n, pairs, up, e)
				}
			}
		}
	}
}

func TestExamples(t *testing.T) {
	up, e := lattice.Build(4, [][2]int{{0, 1}, {0, 2}, {1, 3}, {2, 3}})
	if e != api.OK || !slices.Equal(up, []uint64{15, 10, 12, 8}) {
		t.Errorf("P5.1: %v, %d", up, e)
	}
	j, ok := lattice.Join(up, 1, 2)
	m, is := lattice.Meet(up, 1, 2)
	if j != 3 || !ok || m != 0 || !is || lattice.Height(up) != 2 {
		t.Errorf("P5.2: %d, %v, %d, %v, %d", j, ok, m, is, lattice.Height(up))
	}
	for _, c := range []struct {
		n     int
		pairs [][2]int
		want  api.Errno
	}{
		{3, [][2]int{{0, 1}, {0, 2}}, api.ErrOrder},
		{3, [][2]int{{1, 0}, {2, 0}}, api.ErrOrder},
		{2, [][2]int{{0, 1}, {1, 0}}, api.ErrOrder},
		{3, [][2]int{{0, 1}, {1, 0}}, api.ErrOrder},
		{3, [][2]int{{0, 1}, {1, 2}, {2, 0}}, api.ErrOrder},
		{2, nil, api.ErrOrder},
		{1, nil, api.OK},
		{1, [][2]int{{0, 0}}, api.OK},
		{2, [][2]int{{0, 1}, {0, 1}, {1, 1}}, api.OK},
	} {
		if _, e := lattice.Build(c.n, c.pairs); e != c.want {
			t.Errorf("P5.1: Build(%d, %v): %d, want %d", c.n, c.pairs, e, c.want)
		}
	}
}

func TestWhatIsHandedInAndOut(t *testing.T) {
	room := [][2]int{{0, 1}, {1, 2}, {7, 7}, {8, 8}}
	first, _ := lattice.Build(3, room[:2])
	second, _ := lattice.Build(3, room[:2])
	if !slices.Equal(room, [][2]int{{0, 1}, {1, 2}, {7, 7}, {8, 8}}) {
		t.Errorf("R4: the pairs are %v", room)
	}
	first[0] = 99
	if second[0] != 7 {
		t.Error("R4: two answers of Build share their masks")
	}
	up := []uint64{7, 6, 4, 1000, 1001}
	checkTwo(t, up[:3], 0, 2, checkWhole(t, up[:3]))
	if !slices.Equal(up, []uint64{7, 6, 4, 1000, 1001}) {
		t.Errorf("R4: the masks are %v", up)
	}
	l, again := lattice.Covers(up[:3]), lattice.Covers(up[:3])
	l[0] = [2]int{9, 9}
	if again[0] != [2]int{0, 1} {
		t.Error("R4: two answers of Covers share their pairs")
	}
}
