package calls_test

import (
	"math"
	"math/rand"
	"slices"
	"testing"

	"interdict/calls"
)

// far are numbers that are no node's, in whatever graph.
var far = []int{-1, -2, -255, -256, 256, 257, 1 << 32, -1 << 32, math.MaxInt, math.MinInt}

// isGraph: may a graph be?
func isGraph(to [][]int) bool {
	if len(to) < 1 || len(to) > 256 {
		return false
	}
	for i := range to {
		for at, j := range to[i] {
			if j < 0 || j >= len(to) || slices.Contains(to[i][:at], j) {
				return false
			}
		}
	}
	return true
}

// leads tells of each two nodes whether ways lead from the first one to the second one.
func leads(to [][]int) [][]bool {
	l := make([][]bool, len(to))
	for i := range to {
		l[i] = make([]bool, len(to))
		l[i][i] = true
		for wait := []int{i}; len(wait) > 0; wait = wait[1:] {
			for _, j := range to[wait[0]] {
				if !l[i][j] {
					l[i][j] = true
					wait = append(wait, j)
				}
			}
		}
	}
	return l
}

// groups are those of a graph: first all of them, then again and again the one with the least node that leads to none that is left.
func groups(to [][]int) [][]int {
	way := leads(to)
	var left, l [][]int
	for a := range to {
		var group []int
		for b := range to {
			if way[a][b] && way[b][a] {
				group = append(group, b)
			}
		}
		if group[0] == a {
			left = append(left, group)
		}
	}
	for len(left) > 0 {
		at := slices.IndexFunc(left, func(group []int) bool {
			return !slices.ContainsFunc(left, func(other []int) bool {
				return other[0] != group[0] && way[group[0]][other[0]]
			})
		})
		l = append(l, left[at])
		left = slices.Delete(left, at, at+1)
	}
	return l
}

// entries are those of a graph, by walks of more and more nodes: one of more nodes than there are has gone round a circle, of which there are as long ones up to twice as many nodes.
func entries(to [][]int, main int) []int {
	l := make([]int, len(to))
	at := make([]bool, len(to))
	at[main] = true
	for nodes := 1; nodes <= 2*len(to); nodes++ {
		next := make([]bool, len(to))
		for i, is := range at {
			if !is {
				continue
			}
			if l[i] = nodes; nodes > len(to) {
				l[i] = -1
			}
			for _, j := range to[i] {
				next[j] = true
			}
		}
		at = next
	}
	return l
}

// copied is the same graph in other memory.
func copied(to [][]int) [][]int {
	var l [][]int
	for _, ways := range to {
		l = append(l, slices.Clone(ways))
	}
	return l
}

// equal: are two lists of lists the same?
func equal(a, b [][]int) bool {
	return slices.EqualFunc(a, b, func(x, y []int) bool { return slices.Equal(x, y) })
}

// check holds what is said of a graph against the chapter.
func check(t *testing.T, to [][]int) bool {
	t.Helper()
	before := copied(to)
	defer func() {
		t.Helper()
		if !equal(to, before) {
			t.Fatalf("R4: what was handed in is changed: %v, was %v", to, before)
		}
	}()
	right := isGraph(to)
	var want [][]int
	if right {
		want = groups(to)
	}
	if got := calls.Groups(to); !equal(got, want) {
		t.Fatalf("P18.2: Groups(%v) = %v, want %v", to, got, want)
	}
	for main := range min(len(to), 300) {
		var want []int
		if right {
			want = entries(to, main)
		}
		if got := calls.Entries(to, main); !slices.Equal(got, want) {
			t.Fatalf("P18.2: Entries(%v, %d) = %v, want %v", to, main, got, want)
		}
	}
	for _, main := range append(far, len(to)) {
		if got := calls.Entries(to, main); (main < 0 || main >= len(to)) && len(got) != 0 {
			t.Fatalf("P18.2: Entries(%v, %d) = %v, want none", to, main, got)
		}
	}
	return right
}

func TestGraphs(t *testing.T) {
	for _, c := range []struct {
		to      [][]int
		groups  [][]int
		main    int
		entries []int
	}{
		{[][]int{{1, 2}, {2}, nil}, [][]int{{2}, {1}, {0}}, 0, []int{1, 2, 3}},
		{[][]int{{1, 2}, {2}, nil}, [][]int{{2}, {1}, {0}}, 1, []int{0, 1, 2}},
		{[][]int{{2, 1}, {2}, nil}, [][]int{{2}, {1}, {0}}, 2, []int{0, 0, 1}},
		{[][]int{{1}, {1}}, [][]int{{1}, {0}}, 0, []int{1, -1}},
		{[][]int{{1}, {1}}, [][]int{{1}, {0}}, 1, []int{0, -1}},
		{[][]int{nil}, [][]int{{0}}, 0, []int{1}},
		{[][]int{{0}}, [][]int{{0}}, 0, []int{-1}},
		{[][]int{{1}, {1}, nil}, [][]int{{1}, {0}, {2}}, 0, []int{1, -1, 0}},
		{[][]int{{1}, {0, 2}, nil}, [][]int{{2}, {0, 1}}, 0, []int{-1, -1, -1}},
		{[][]int{{1}, {0, 2}, nil}, [][]int{{2}, {0, 1}}, 2, []int{0, 0, 1}},
		// A circle that main does not reach says nothing, though it reaches what main does.
		{[][]int{{2}, {1, 2}, nil}, [][]int{{2}, {0}, {1}}, 0, []int{1, 0, 2}},
		// A circle beside other ways: only what it reaches is come to as often as one likes.
		{[][]int{{1, 3}, {2}, {1, 4}, {5}, {5}, nil, {6}}, [][]int{{5}, {3}, {4}, {1, 2}, {0}, {6}}, 0, []int{1, -1, -1, 2, -1, -1, 0}},
		// The longest way counts, wherever it stands in the lists.
		{[][]int{{4, 1}, {2}, {3}, {4}, {5}, nil}, [][]int{{5}, {4}, {3}, {2}, {1}, {0}}, 0, []int{1, 2, 3, 4, 5, 6}},
		{[][]int{nil, {0}, {0, 4}, {2, 1}, {1}}, [][]int{{0}, {1}, {4}, {2}, {3}}, 3, []int{5, 4, 2, 1, 3}},
		// Groups without ways between them come by their least nodes; a lesser one that waits comes as soon as it may.
		{[][]int{{3}, {4}, nil, {0}, {1}}, [][]int{{0, 3}, {1, 4}, {2}}, 0, []int{-1, 0, 0, -1, 0}},
		{[][]int{{4}, nil, {3}, {2}, nil}, [][]int{{1}, {2, 3}, {4}, {0}}, 0, []int{1, 0, 0, 0, 2}},
		{[][]int{{2}, nil, nil, nil}, [][]int{{1}, {2}, {0}, {3}}, 0, []int{1, 0, 2, 0}},
	} {
		if got := calls.Groups(c.to); !equal(got, c.groups) {
			t.Errorf("P18.2: Groups(%v) = %v, want %v", c.to, got, c.groups)
		}
		if got := calls.Entries(c.to, c.main); !slices.Equal(got, c.entries) {
			t.Errorf("P18.2: Entries(%v, %d) = %v, want %v", c.to, c.main, got, c.entries)
		}
		if !check(t, c.to) {
			t.Errorf("the test's own reading refuses %v", c.to)
		}
	}
}

func TestNoGraphs(t *testing.T) {
	for _, to := range [][][]int{
		nil, {}, {{1}}, {{-1}}, {{0, 0}}, {{1, 1}, nil}, {{1}, {2}}, {{1}, {0, 1, 0}}, {nil, {math.MaxInt}}, {nil, {math.MinInt}}, {nil, {256}}, make([][]int, 257), make([][]int, 1<<12),
	} {
		if check(t, to) {
			t.Errorf("the test's own reading takes %v", to)
		}
	}
}

// lists are all lists of ways to n nodes, each way once at most, in whatever order.
func lists(n int) [][]int {
	l := [][]int{nil}
	for at := 0; at < len(l); at++ {
		for j := range n {
			if !slices.Contains(l[at], j) {
				l = append(l, append(slices.Clone(l[at]), j))
			}
		}
	}
	return l
}

func TestAllSmallGraphs(t *testing.T) {
	for n := 1; n <= 3; n++ {
		l := lists(n)
		all := 1
		for range n {
			all *= len(l)
		}
		for k := range all {
			to := make([][]int, n)
			for i := range to {
				to[i] = l[k%len(l)]
				k /= len(l)
			}
			check(t, to)
		}
	}
	for k := range 1 << 16 {
		to := make([][]int, 4)
		for bit := range 16 {
			if k>>bit&1 == 1 {
				to[bit/4] = append(to[bit/4], bit%4)
			}
		}
		check(t, to)
	}
}

// chance is a graph of n nodes with so many ways in all, at most; if they are to go down, a way leads to a node that is further on in some order of them.
func chance(r *rand.Rand, n, ways int, down bool) [][]int {
	to := make([][]int, n)
	name := r.Perm(n)
	for range ways {
		a, b := r.Intn(n), r.Intn(n)
		if down && a >= b {
			continue
		}
		if i, j := name[a], name[b]; !slices.Contains(to[i], j) {
			to[i] = append(to[i], j)
		}
	}
	return to
}

func TestGraphsByChance(t *testing.T) {
	r := rand.New(rand.NewSource(18))
	several := 0
	for k := range 6000 {
		n := 1 + r.Intn(12)
		to := chance(r, n, r.Intn(2*n+2), k%2 == 0)
		check(t, to)
		if k%2 == 0 {
			// One way that leads back makes few circles.
			if i, j := r.Intn(n), r.Intn(n); !slices.Contains(to[i], j) {
				to[i] = append(to[i], j)
			}
			check(t, to)
		}
		if l := calls.Groups(to); len(l) > 1 && len(l) < n {
			several++
		}
	}
	for k := range 20 {
		check(t, chance(r, 30+r.Intn(20), 20+r.Intn(120), k%2 == 0))
	}
	for range 1000 {
		to := chance(r, 1+r.Intn(6), 8, false)
		i := r.Intn(len(to))
		wrong := append([]int{len(to)}, append(far, to[i]...)...)
		to[i] = append(to[i], wrong[r.Intn(len(wrong))])
		if check(t, to) {
			t.Fatalf("the test's own reading takes %v", to)
		}
	}
	if several < 1000 {
		t.Errorf("the test's own graphs: only %d have groups of several nodes and others", several)
	}
}

// great is the graph of n nodes that has the ways that are asked for.
func great(n int, way func(i, j int) bool) [][]int {
	to := make([][]int, n)
	for i := range to {
		for j := range n {
			if way(i, j) {
				to[i] = append(to[i], j)
			}
		}
	}
	return to
}

func TestGreatGraphs(t *testing.T) {
	for _, n := range []int{255, 256, 257} {
		for name, c := range map[string]struct {
			way   func(i, j int) bool
			group func(i int) []int // the one at the place i
			entry func(i int) int   // seen from 0
		}{
			"down":  {func(i, j int) bool { return j == i+1 }, func(i int) []int { return []int{n - 1 - i} }, func(i int) int { return i + 1 }},
			"up":    {func(i, j int) bool { return j == i-1 }, func(i int) []int { return []int{i} }, func(i int) int { return step(i == 0) }},
			"all":   {func(i, j int) bool { return i < j }, func(i int) []int { return []int{n - 1 - i} }, func(i int) int { return i + 1 }},
			"none":  {func(i, j int) bool { return false }, func(i int) []int { return []int{i} }, func(i int) int { return step(i == 0) }},
			"ring":  {func(i, j int) bool { return j == (i+1)%n }, func(i int) []int { return all(n)[:n*step(i == 0)] }, func(i int) int { return -1 }},
			"each":  {func(i, j int) bool { return true }, func(i int) []int { return all(n)[:n*step(i == 0)] }, func(i int) int { return -1 }},
			"alone": {func(i, j int) bool { return j == i }, func(i int) []int { return []int{i} }, func(i int) int { return -step(i == 0) }},
		} {
			to := great(n, c.way)
			var groups [][]int
			var entries []int
			for i := range n * step(n <= 256) {
				if group := c.group(i); len(group) > 0 {
					groups = append(groups, group)
				}
				entries = append(entries, c.entry(i))
			}
			if got := calls.Groups(to); !equal(got, groups) {
				t.Errorf("P18.2: Groups of %d nodes, %s: %v", n, name, got)
			}
			if got := calls.Entries(to, 0); !slices.Equal(got, entries) {
				t.Errorf("P18.2: Entries of %d nodes, %s: %v", n, name, got)
			}
		}
	}
}

// step is 1, if something is so.
func step(is bool) int {
	if is {
		return 1
	}
	return 0
}

// all are the numbers from 0 to n - 1.
func all(n int) []int {
	var l []int
	for i := range n {
		l = append(l, i)
	}
	return l
}

func TestWhatIsHandedIn(t *testing.T) {
	room := func(l ...int) []int { return append(l, 77, 78)[:len(l)] }
	to := append([][]int{room(1, 2), room(3), room(1, 3), room()}, []int{9}, nil)[:4]
	check(t, to)
	for i, ways := range to {
		if behind := ways[len(ways) : len(ways)+2]; behind[0] != 77 || behind[1] != 78 {
			t.Errorf("R4: behind the ways of %d stands %v", i, behind)
		}
	}
	if behind := to[4:6]; !slices.Equal(behind[0], []int{9}) || behind[1] != nil {
		t.Errorf("R4: behind the lists stands %v", behind)
	}
}

func TestWhatIsHandedOut(t *testing.T) {
	to := [][]int{{1, 4}, {2, 3, 1}, {4}, {4, 2}, {5, 3}, nil}
	p, c := setting(t, setup), fan()
	first, _ := calls.To(p, c)
	second, _ := calls.To(p, c)
	l := slices.Concat(copied(to), first, second, calls.Groups(to), calls.Groups(to), [][]int{calls.Entries(to, 0), calls.Entries(to, 0)})
	for i := range l {
		room := l[i][:cap(l[i])]
		for k := range room {
			room[k] = 1000 + i
		}
	}
	for i := range l {
		for _, n := range l[i][:cap(l[i])] {
			if n != 1000+i {
				t.Error("R4: lists share memory")
			}
		}
	}
	check(t, to)
}
