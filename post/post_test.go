package post_test

import (
	"math"
	"math/rand"
	"slices"
	"testing"

	"interdict/post"
)

// far are numbers that are no node's, in whatever graph.
var far = []int{-1, -2, -255, -256, 255, 256, 257, 1 << 32, -1 << 32, math.MaxInt, math.MinInt}

// reached tells to which nodes ways lead from one that do not go through another one.
func reached(to [][]int, from, gone int) []bool {
	been := make([]bool, len(to))
	var wait []int
	if from != gone {
		wait, been[from] = []int{from}, true
	}
	for len(wait) > 0 {
		ways := to[wait[0]]
		wait = wait[1:]
		for _, j := range ways {
			if j != gone && !been[j] {
				been[j] = true
				wait = append(wait, j)
			}
		}
	}
	return been
}

// ends: does a way lead from a node to an exit that does not go through another one?
func ends(to [][]int, from, gone int) bool {
	for i, is := range reached(to, from, gone) {
		if is && len(to[i]) == 0 {
			return true
		}
	}
	return false
}

// isTold: is it a graph of which something is told?
func isTold(to [][]int) bool {
	if len(to) < 1 || len(to) > 255 {
		return false
	}
	for i := range to {
		for at, j := range to[i] {
			if j < 0 || j >= len(to) || slices.Contains(to[i][:at], j) {
				return false
			}
		}
	}
	if slices.Contains(reached(to, 0, -1), false) {
		return false
	}
	for i := range to {
		if !ends(to, i, -1) {
			return false
		}
	}
	return true
}

// behind tells of each two nodes whether the first comes behind the second.
func behind(to [][]int) [][]bool {
	l := make([][]bool, len(to))
	for a := range to {
		l[a] = make([]bool, len(to))
		for b := range to {
			l[a][b] = a == b || !ends(to, b, a)
		}
	}
	return l
}

// meetings tells of each node the other one that comes behind it behind which all others of them come; the number of nodes, if there is none.
func meetings(to [][]int) []int {
	comes := behind(to)
	var l []int
	for b := range to {
		var others []int
		for a := range to {
			if a != b && comes[a][b] {
				others = append(others, a)
			}
		}
		at := slices.IndexFunc(others, func(a int) bool {
			return !slices.ContainsFunc(others, func(c int) bool { return !comes[c][a] })
		})
		if at < 0 {
			l = append(l, len(to))
		} else {
			l = append(l, others[at])
		}
	}
	return l
}

// region is a fork's region, as the chapter says.
func region(to [][]int, fork, meeting int) []int {
	if len(to[fork]) < 2 {
		return nil
	}
	in := map[int]struct{}{}
	for _, j := range to[fork] {
		for i, is := range reached(to, j, meeting) {
			if is {
				in[i] = struct{}{}
			}
		}
	}
	var l []int
	for i := range to {
		if _, is := in[i]; is {
			l = append(l, i)
		}
	}
	return l
}

// copied is the same graph in other memory.
func copied(to [][]int) [][]int {
	var l [][]int
	for _, ways := range to {
		l = append(l, slices.Clone(ways))
	}
	return l
}

// equal: are two lists of lists the same?
func equal(a, b [][]int) bool {
	return slices.EqualFunc(a, b, func(x, y []int) bool { return slices.Equal(x, y) })
}

// check holds all that is said of a graph against the chapter.
func check(t *testing.T, to [][]int) bool {
	t.Helper()
	before := copied(to)
	defer func() {
		if !equal(to, before) {
			t.Fatalf("R4: what was handed in is changed: %v, was %v", to, before)
		}
	}()
	if !isTold(to) {
		checkNone(t, to)
		return false
	}
	meeting := meetings(to)
	if got := post.Tree(to); !slices.Equal(got, meeting) {
		t.Fatalf("P12.1: Tree(%v) = %v, want %v", to, got, meeting)
	}
	held := make([][]int, len(to))
	for fork := range to {
		want := region(to, fork, meeting[fork])
		if got := post.Region(to, fork); !slices.Equal(got, want) {
			t.Fatalf("P12.2: Region(%v, %d) = %v, want %v", to, fork, got, want)
		}
		for _, i := range want {
			held[i] = append(held[i], fork)
		}
	}
	for _, i := range append(far, len(to)) {
		if got := post.Region(to, i); (i < 0 || i >= len(to)) && len(got) != 0 {
			t.Fatalf("P12.2: Region(%v, %d) = %v, want none", to, i, got)
		}
	}
	if got := post.Held(to); !equal(got, held) {
		t.Fatalf("P12.2: Held(%v) = %v, want %v", to, got, held)
	}
	return true
}

// checkNone holds what is said of a graph of which nothing is told.
func checkNone(t *testing.T, to [][]int) {
	t.Helper()
	if tree, held := post.Tree(to), post.Held(to); len(tree) != 0 || len(held) != 0 {
		t.Fatalf("P12.1, P12.2: of %v is told %v and %v, want none", to, tree, held)
	}
	for i := -1; i <= min(len(to), 300); i++ {
		if got := post.Region(to, i); len(got) != 0 {
			t.Fatalf("P12.2: Region(%v, %d) = %v, want none", to, i, got)
		}
	}
	for _, i := range far {
		if got := post.Region(to, i); len(got) != 0 {
			t.Fatalf("P12.2: Region(%v, %d) = %v, want none", to, i, got)
		}
	}
}

func TestExamples(t *testing.T) {
	for _, c := range []struct {
		to     [][]int
		tree   []int
		fork   int
		region []int
		held   [][]int
	}{
		{[][]int{{1, 2}, {3}, {3}, nil}, []int{3, 3, 3, 4}, 0, []int{1, 2}, [][]int{nil, {0}, {0}, nil}},
		{[][]int{{1}, {2, 3}, {1}, nil}, []int{1, 3, 1, 4}, 1, []int{1, 2}, [][]int{nil, {1}, {1}, nil}},
		{[][]int{{1, 2}, nil, nil}, []int{3, 3, 3}, 0, []int{1, 2}, [][]int{nil, {0}, {0}}},
		{[][]int{nil}, []int{1}, 0, nil, [][]int{nil}},
		{[][]int{{1}, nil}, []int{1, 2}, 0, nil, [][]int{nil, nil}},
		// A way leads to the meeting itself.
		{[][]int{{1, 2}, {2}, nil}, []int{2, 2, 3}, 0, []int{1}, [][]int{nil, {0}, nil}},
		// A node that leads to itself.
		{[][]int{{1, 0}, nil}, []int{1, 2}, 0, []int{0}, [][]int{{0}, nil}},
		// A fork in the region of another one, whose meeting is the same.
		{[][]int{{1, 4}, {2, 3}, {4}, {4}, nil}, []int{4, 4, 4, 4, 5}, 0, []int{1, 2, 3}, [][]int{nil, {0}, {0, 1}, {0, 1}, nil}},
		// Two exits, the one behind a meeting: the region goes through what would be the other way's meeting.
		{[][]int{{1, 2}, {3}, {3, 4}, {5}, nil, nil}, []int{6, 3, 6, 5, 6, 6}, 0, []int{1, 2, 3, 4, 5}, [][]int{nil, {0}, {0}, {0, 2}, {0, 2}, {0, 2}}},
		// A fork of three ways.
		{[][]int{{3, 2, 1}, {4}, {4}, {4}, nil}, []int{4, 4, 4, 4, 5}, 0, []int{1, 2, 3}, [][]int{nil, {0}, {0}, {0}, nil}},
	} {
		if got := post.Tree(c.to); !slices.Equal(got, c.tree) {
			t.Errorf("P12.1: Tree(%v) = %v, want %v", c.to, got, c.tree)
		}
		if got := post.Region(c.to, c.fork); !slices.Equal(got, c.region) {
			t.Errorf("P12.2: Region(%v, %d) = %v, want %v", c.to, c.fork, got, c.region)
		}
		if got := post.Held(c.to); !equal(got, c.held) {
			t.Errorf("P12.2: Held(%v) = %v, want %v", c.to, got, c.held)
		}
		if !check(t, c.to) {
			t.Errorf("the test's own reading refuses %v", c.to)
		}
	}
}

func TestNone(t *testing.T) {
	for _, to := range [][][]int{
		nil, {}, {{0}}, {nil, nil}, {{1, 1}, nil}, {{1, 2}, nil}, {{-1, 0}}, {{1}, {0}},
		// A node that is not reached, and one that does not end, ahead of or behind all others.
		{{1, 2}, nil, nil, {0}}, {{2}, {0, 2}, nil}, {{1, 2}, {1}, nil}, {{1, 2}, nil, {2}}, {{1, 2}, {2}, {1}},
	} {
		if check(t, to) {
			t.Errorf("the test's own reading takes %v", to)
		}
	}
}

// lists are all lists of ways to n nodes, each way once at most, in whatever order.
func lists(n int) [][]int {
	l := [][]int{nil}
	for at := 0; at < len(l); at++ {
		for j := range n {
			if !slices.Contains(l[at], j) {
				l = append(l, append(slices.Clone(l[at]), j))
			}
		}
	}
	return l
}

func TestAllSmallGraphs(t *testing.T) {
	told := 0
	for n := 1; n <= 3; n++ {
		l := lists(n)
		all := 1
		for range n {
			all *= len(l)
		}
		for k := range all {
			to := make([][]int, n)
			for i := range to {
				to[i] = l[k%len(l)]
				k /= len(l)
			}
			if check(t, to) {
				told++
			}
		}
	}
	for k := range 1 << 16 {
		to := make([][]int, 4)
		for bit := range 16 {
			if k>>bit&1 == 1 {
				to[bit/4] = append(to[bit/4], bit%4)
			}
		}
		if check(t, to) {
			told++
		}
	}
	if told < 4000 {
		t.Errorf("the test's own graphs: something is told of %d", told)
	}
}

// chance is a graph of n nodes, each with so many ways more at most; a way leads to most nodes from one ahead of them.
func chance(r *rand.Rand, n, most int) [][]int {
	to := make([][]int, n)
	name := r.Perm(n)
	at := slices.Index(name, 0)
	name[0], name[at] = name[at], name[0]
	for at := 1; at < n; at++ {
		if r.Intn(200) > 0 {
			from := name[max(0, at-1-r.Intn(4))]
			to[from] = append(to[from], name[at])
		}
	}
	for i := range to {
		if len(to[i]) == 0 && r.Intn(3) > 0 {
			continue
		}
		for range r.Intn(most + 1) {
			if j := r.Intn(n); !slices.Contains(to[i], j) {
				to[i] = append(to[i], j)
			}
		}
		r.Shuffle(len(to[i]), func(a, b int) { to[i][a], to[i][b] = to[i][b], to[i][a] })
	}
	return to
}

func TestByChance(t *testing.T) {
	r := rand.New(rand.NewSource(12))
	told := map[bool]int{}
	for range 20000 {
		told[check(t, chance(r, 1+r.Intn(12), r.Intn(4)))]++
	}
	for range 30 {
		told[check(t, chance(r, 40+r.Intn(60), r.Intn(2)))]++
	}
	for range 3000 {
		to := chance(r, 1+r.Intn(6), 2)
		i := r.Intn(len(to))
		wrong := append(far, to[i]...)
		to[i] = append(to[i], wrong[r.Intn(len(wrong))])
		if check(t, to) {
			t.Fatalf("the test's own reading takes %v", to)
		}
	}
	if told[true] < 10000 || told[false] < 1000 {
		t.Errorf("the test's own graphs: %v", told)
	}
}

// great is a line of n nodes; each one leads back to the one ahead of it, or to the last one, too, if it is asked for.
func great(n int, back, last bool) [][]int {
	to := make([][]int, n)
	for i := range n - 1 {
		to[i] = []int{i + 1}
		if back && i > 0 {
			to[i] = append(to[i], i-1)
		}
		if last && i < n-2 {
			to[i] = append(to[i], n-1)
		}
	}
	return to
}

func TestGreatGraphs(t *testing.T) {
	for _, n := range []int{254, 255, 256, 257} {
		for _, to := range [][][]int{great(n, false, false), great(n, true, false), great(n, false, true), great(n, true, true)} {
			tree := post.Tree(to)
			if n > 255 {
				checkNone(t, to)
				continue
			}
			if len(tree) != n || tree[n-1] != n || tree[n-2] != n-1 {
				t.Fatalf("P12.1: Tree(%v) = %v", to, tree)
			}
			held := post.Held(to)
			for i := range n {
				want := region(to, i, tree[i])
				if got := post.Region(to, i); !slices.Equal(got, want) {
					t.Fatalf("P12.2: Region(%v, %d) = %v, want %v", to, i, got, want)
				}
				for j := range n {
					if slices.Contains(held[j], i) != slices.Contains(want, j) {
						t.Fatalf("P12.2: Held(%v) of %d is %v", to, j, held[j])
					}
				}
			}
		}
		if to := great(n, false, true); n <= 255 && !slices.Equal(post.Tree(to), slices.Concat(slices.Repeat([]int{n - 1}, n-1), []int{n})) {
			t.Errorf("P12.1: Tree(%v) = %v", to, post.Tree(to))
		}
	}
	if to := great(255, true, true); !check(t, to) {
		t.Error("the test's own reading refuses a graph of 255 nodes")
	}
	star := make([][]int, 255)
	for i := 1; i < 255; i++ {
		star[0] = append(star[0], i)
	}
	if !check(t, star) || check(t, append(star, []int{0})) || check(t, make([][]int, 1<<10)) {
		t.Error("the test's own reading of great graphs")
	}
}

func TestWhatIsHandedIn(t *testing.T) {
	room := func(l ...int) []int { return append(l, 77, 78)[:len(l)] }
	to := append([][]int{room(1, 2), room(3), room(3), room()}, []int{9}, nil)[:4]
	check(t, to)
	for i, ways := range to {
		if behind := ways[len(ways) : len(ways)+2]; behind[0] != 77 || behind[1] != 78 {
			t.Errorf("R4: behind the ways of %d stands %v", i, behind)
		}
	}
	if behind := to[4:6]; !slices.Equal(behind[0], []int{9}) || behind[1] != nil {
		t.Errorf("R4: behind the lists stands %v", behind)
	}
}

func TestWhatIsHandedOut(t *testing.T) {
	to := [][]int{{1, 4}, {2, 3, 1}, {4}, {4}, {0, 5}, nil}
	l := slices.Concat(copied(to), post.Held(to), post.Held(to), [][]int{post.Tree(to), post.Tree(to), post.Region(to, 0), post.Region(to, 0), post.Region(to, 4)})
	for i := range l {
		room := l[i][:cap(l[i])]
		for k := range room {
			room[k] = 1000 + i
		}
	}
	for i := range l {
		for _, n := range l[i][:cap(l[i])] {
			if n != 1000+i {
				t.Error("R4: lists share memory")
			}
		}
	}
	check(t, to)
}
