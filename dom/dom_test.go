package dom_test

import (
	"math"
	"math/rand"
	"slices"
	"testing"

	"interdict/dom"
)

// far are numbers that are no node's, in whatever graph or tree.
var far = []int{-1, -2, -256, 256, 257, 1 << 32, -1 << 32, math.MaxInt, math.MinInt}

// mayBe: may a graph be, as chapter 10 says?
func mayBe(to [][]int) bool {
	for i := range to {
		for at, j := range to[i] {
			if j < 0 || j >= len(to) || slices.Contains(to[i][:at], j) {
				return false
			}
		}
	}
	return len(to) >= 1 && len(to) <= 256
}

// without tells which nodes ways from the first one come to that do not go through one.
func without(to [][]int, gone int) []bool {
	been := make([]bool, len(to))
	var wait []int
	if gone != 0 {
		wait, been[0] = []int{0}, true
	}
	for len(wait) > 0 {
		ways := to[wait[0]]
		wait = wait[1:]
		for _, j := range ways {
			if j != gone && !been[j] {
				been[j] = true
				wait = append(wait, j)
			}
		}
	}
	return been
}

// above tells of each two nodes whether the first dominates the second, as the chapter says; false, if nothing is told of the graph.
func above(to [][]int) ([][]bool, bool) {
	if !mayBe(to) || slices.Contains(without(to, -1), false) {
		return nil, false
	}
	var l [][]bool
	for a := range to {
		row := without(to, a)
		for b := range row {
			row[b] = !row[b] || a == b
		}
		l = append(l, row)
	}
	return l, true
}

// immediate tells a node's other dominator that all others of them dominate; -1, if there is none.
func immediate(over [][]bool, b int) int {
	var others []int
	for a := range over {
		if a != b && over[a][b] {
			others = append(others, a)
		}
	}
	for _, a := range others {
		if !slices.ContainsFunc(others, func(c int) bool { return !over[c][a] }) {
			return a
		}
	}
	return -1
}

// copied is the same graph in other memory.
func copied(to [][]int) [][]int {
	var l [][]int
	for _, ways := range to {
		l = append(l, slices.Clone(ways))
	}
	return l
}

// equal: are two graphs the same?
func equal(a, b [][]int) bool {
	return slices.EqualFunc(a, b, func(x, y []int) bool { return slices.Equal(x, y) })
}

// check holds the tree of a graph against the chapter.
func check(t *testing.T, to [][]int) bool {
	t.Helper()
	before := copied(to)
	tree := dom.Tree(to)
	if !equal(to, before) {
		t.Fatalf("R4: what was handed in is changed: %v, was %v", to, before)
	}
	over, is := above(to)
	if !is {
		if len(tree) != 0 {
			t.Fatalf("P11.1: Tree(%v) = %v, want none", to, tree)
		}
		return false
	}
	if len(tree) != len(to) {
		t.Fatalf("P11.1: Tree(%v) = %v, want %d nodes", to, tree, len(to))
	}
	for b := range to {
		if want := immediate(over, b); tree[b] != want {
			t.Fatalf("P11.1: Tree(%v) = %v, of %d want %d", to, tree, b, want)
		}
	}
	if len(to) > 16 {
		return true
	}
	for a := range to {
		for b := range to {
			if got := dom.Dominates(tree, a, b); got != over[a][b] {
				t.Fatalf("P11.2: of %v: Dominates(%v, %d, %d) = %v", to, tree, a, b, got)
			}
		}
	}
	return true
}

func TestExamples(t *testing.T) {
	for _, c := range []struct {
		to   [][]int
		want []int
	}{
		{[][]int{{1, 2}, {3}, {3}, nil}, []int{-1, 0, 0, 0}},
		{[][]int{{1}, {2}, {1, 3}, nil}, []int{-1, 0, 1, 2}},
		{[][]int{nil}, []int{-1}},
		{[][]int{{0}}, []int{-1}},
		{[][]int{{1}, {0}}, []int{-1, 0}},
		{[][]int{{2}, nil, {1}}, []int{-1, 2, 0}},
		// Two rings into which two ways lead: neither of their nodes dominates the other one.
		{[][]int{{1, 2}, {2}, {1}}, []int{-1, 0, 0}},
		{[][]int{{1, 4}, {2}, {1, 3}, {2, 4}, {3}}, []int{-1, 0, 0, 0, 0}},
		{[][]int{nil, nil}, nil},
		{[][]int{{1, 1}, nil}, nil},
		{[][]int{{2}, nil}, nil},
		{[][]int{{-1}}, nil},
		{[][]int{{0}, {0}}, nil},
		{[][]int{}, nil},
		{nil, nil},
	} {
		if got := dom.Tree(c.to); !slices.Equal(got, c.want) {
			t.Errorf("P11.1: Tree(%v) = %v, want %v", c.to, got, c.want)
		}
		check(t, c.to)
	}
}

// lists are all lists of ways to n nodes, each way once at most, in whatever order.
func lists(n int) [][]int {
	l := [][]int{nil}
	for at := 0; at < len(l); at++ {
		for j := range n {
			if !slices.Contains(l[at], j) {
				l = append(l, append(slices.Clone(l[at]), j))
			}
		}
	}
	return l
}

func TestAllSmallGraphs(t *testing.T) {
	told := 0
	for n := 1; n <= 3; n++ {
		l := lists(n)
		all := 1
		for range n {
			all *= len(l)
		}
		for k := range all {
			to := make([][]int, n)
			for i := range to {
				to[i] = l[k%len(l)]
				k /= len(l)
			}
			if check(t, to) {
				told++
			}
		}
	}
	for k := range 1 << 16 {
		to, turned := make([][]int, 4), make([][]int, 4)
		for bit := range 16 {
			if k>>bit&1 == 1 {
				to[bit/4] = append(to[bit/4], bit%4)
				turned[bit/4] = append([]int{bit % 4}, turned[bit/4]...)
			}
		}
		check(t, to)
		if check(t, turned) {
			told++
		}
	}
	if told < 20000 {
		t.Errorf("the test's own graphs: something is told of %d", told)
	}
}

// named are the numbers from 0 to n - 1 in some order, 0 the first of them.
func named(r *rand.Rand, n int) []int {
	name := r.Perm(n)
	at := slices.Index(name, 0)
	name[0], name[at] = name[at], name[0]
	return name
}

// chance is a graph of n nodes, each with so many ways at most; a way leads to most nodes from one ahead of them.
func chance(r *rand.Rand, n, most int) [][]int {
	to := make([][]int, n)
	name := named(r, n)
	for at := 1; at < n; at++ {
		if r.Intn(200) > 0 {
			from := name[max(0, at-1-r.Intn(4))]
			to[from] = append(to[from], name[at])
		}
	}
	for i := range to {
		for range r.Intn(most + 1) {
			if j := r.Intn(n); !slices.Contains(to[i], j) {
				to[i] = append(to[i], j)
			}
		}
		r.Shuffle(len(to[i]), func(a, b int) { to[i][a], to[i][b] = to[i][b], to[i][a] })
	}
	return to
}

func TestByChance(t *testing.T) {
	r := rand.New(rand.NewSource(11))
	told := map[bool]int{}
	for range 20000 {
		told[check(t, chance(r, 1+r.Intn(12), r.Intn(4)))]++
	}
	for range 60 {
		told[check(t, chance(r, 100+r.Intn(157), r.Intn(3)))]++
	}
	for range 5000 {
		to := chance(r, 1+r.Intn(6), 2)
		i := r.Intn(len(to))
		wrong := append(far, to[i]...)
		to[i] = append(to[i], wrong[r.Intn(len(wrong))])
		if check(t, to) {
			t.Fatalf("the test's own reading takes %v", to)
		}
	}
	if told[true] < 15000 || told[false] < 300 {
		t.Errorf("the test's own graphs: %v", told)
	}
}

func TestGreatGraphs(t *testing.T) {
	for _, n := range []int{255, 256, 257} {
		line, ring, full, slow, star := make([][]int, n), make([][]int, n), make([][]int, n), make([][]int, n), make([][]int, n)
		for i := range n {
			if i+1 < n {
				line[i] = []int{i + 1}
				slow[i] = []int{i + 1}
				star[0] = append(star[0], i+1)
			}
			// What the last node's second way in tells goes but one node back with each round.
			if i > 1 {
				slow[i] = append(slow[i], i-1)
			}
			ring[i] = []int{(i + 1) % n}
			for j := range n {
				full[i] = append(full[i], j)
			}
		}
		slow[0] = []int{1, n - 1}
		for _, to := range [][][]int{line, ring, full, slow, star} {
			if told := check(t, to); told != (n <= 256) {
				t.Errorf("P11.1: a graph of %d nodes: %v", n, told)
			}
		}
		line[n-2] = nil
		if check(t, line) {
			t.Errorf("the test's own reading: node %d of a line is not reached any more", n-1)
		}
	}
	if l := dom.Tree(make([][]int, 1<<16)); len(l) != 0 {
		t.Errorf("P11.1: of too many nodes %v is told", l)
	}
}

// chain is a node's chain in a tree, as the chapter says; none, if there is no such tree or node.
func chain(tree []int, a int) []int {
	if !isTree(tree) || a < 0 || a >= len(tree) {
		return nil
	}
	l := []int{a}
	for l[len(l)-1] != 0 {
		l = append(l, tree[l[len(l)-1]])
	}
	return l
}

// isTree: are some numbers a tree, as the chapter says?
func isTree(tree []int) bool {
	if len(tree) < 1 || len(tree) > 256 || tree[0] != -1 {
		return false
	}
	for _, j := range tree[1:] {
		if j < 0 || j >= len(tree) {
			return false
		}
		// After as many steps as there are nodes, a way that does not end at the first one is in a ring.
		for range tree {
			if j != 0 {
				j = tree[j]
			}
			if j < 0 || j >= len(tree) {
				return false
			}
		}
		if j != 0 {
			return false
		}
	}
	return true
}

// checkTree holds what is said of some numbers and two nodes against the chapter.
func checkTree(t *testing.T, tree []int, a, b int) {
	t.Helper()
	before := slices.Clone(tree)
	ofA, ofB := chain(tree, a), chain(tree, b)
	if got := dom.Chain(tree, a); !slices.Equal(got, ofA) {
		t.Fatalf("P11.2: Chain(%v, %d) = %v, want %v", tree, a, got, ofA)
	}
	if got, want := dom.Dominates(tree, a, b), slices.Contains(ofB, a); got != want {
		t.Fatalf("P11.2: Dominates(%v, %d, %d) = %v, want %v", tree, a, b, got, want)
	}
	near, is := 0, false
	if at := slices.IndexFunc(ofA, func(i int) bool { return slices.Contains(ofB, i) }); at >= 0 {
		near, is = ofA[at], true
	}
	if got, ok := dom.Near(tree, a, b); got != near || ok != is {
		t.Fatalf("P11.2: Near(%v, %d, %d) = %d, %v, want %d, %v", tree, a, b, got, ok, near, is)
	}
	if !slices.Equal(tree, before) {
		t.Fatalf("R4: what was handed in is changed: %v, was %v", tree, before)
	}
}

func TestTreeExamples(t *testing.T) {
	tree := []int{-1, 0, 1, 2}
	if l := dom.Chain(tree, 3); !slices.Equal(l, []int{3, 2, 1, 0}) {
		t.Errorf("P11.2: %v", l)
	}
	if !dom.Dominates(tree, 1, 3) || !dom.Dominates(tree, 3, 3) || !dom.Dominates(tree, 0, 0) || dom.Dominates(tree, 3, 1) {
		t.Error("P11.2: Dominates")
	}
	tree = []int{-1, 0, 0, 1, 1, 3}
	for _, c := range []struct{ a, b, near int }{{3, 2, 0}, {4, 5, 1}, {5, 4, 1}, {5, 3, 3}, {3, 5, 3}, {2, 2, 2}, {0, 5, 0}} {
		if i, ok := dom.Near(tree, c.a, c.b); i != c.near || !ok {
			t.Errorf("P11.2: Near(%v, %d, %d) = %d, %v", tree, c.a, c.b, i, ok)
		}
	}
	if l := dom.Chain([]int{-1}, 0); !slices.Equal(l, []int{0}) {
		t.Errorf("P11.2: %v", l)
	}
}

func TestWhatIsNoTree(t *testing.T) {
	for _, tree := range [][]int{
		nil, {}, {0}, {1}, {-2}, {-1, -1}, {-1, 1}, {-1, 2}, {-1, 2, 1}, {-1, 0, 2}, {-1, 2, 3, 1}, {-1, 0, 3, 4, 2}, {0, 0}, {1, 0},
		{-1, 0, 3}, {-1, 0, math.MaxInt}, {-1, 0, math.MinInt}, {-1, 0, -1}, {-1, 0, -2},
	} {
		if isTree(tree) {
			t.Errorf("the test's own reading takes %v", tree)
		}
		for a := -2; a < len(tree)+2; a++ {
			for b := -2; b < len(tree)+2; b++ {
				near, is := dom.Near(tree, a, b)
				if len(dom.Chain(tree, a)) != 0 || dom.Dominates(tree, a, b) || near != 0 || is {
					t.Errorf("P11.2: of %v, %d and %d something is told", tree, a, b)
				}
			}
		}
	}
	for _, a := range append(far, 3) {
		tree := []int{-1, 0, 1}
		near, is := dom.Near(tree, a, 0)
		other, isOther := dom.Near(tree, 0, a)
		both, areBoth := dom.Near(tree, a, a)
		if near != 0 || is || other != 0 || isOther || both != 0 || areBoth {
			t.Errorf("P11.2: Near of %d, which is no node", a)
		}
		if len(dom.Chain(tree, a)) != 0 || dom.Dominates(tree, a, 0) || dom.Dominates(tree, 0, a) || dom.Dominates(tree, a, a) {
			t.Errorf("P11.2: something is told of %d, which is no node", a)
		}
	}
}

func TestAllSmallTrees(t *testing.T) {
	trees := 0
	for n := range 5 {
		all := 1
		for range n {
			all *= n + 3
		}
		for k := range all {
			tree := make([]int, n)
			for i := range tree {
				tree[i] = k%(n+3) - 2
				k /= n + 3
			}
			for a := -2; a < n+2; a++ {
				for b := -2; b < n+2; b++ {
					checkTree(t, tree, a, b)
				}
			}
			if isTree(tree) {
				trees++
			}
		}
	}
	// Of n nodes there are n to the power of n - 2 trees.
	if trees != 1+1+3+16 {
		t.Errorf("the test's own trees: %d", trees)
	}
}

func TestGreatTrees(t *testing.T) {
	r := rand.New(rand.NewSource(12))
	for _, n := range []int{255, 256, 257, 1000} {
		up, down, star := []int{-1}, []int{-1}, []int{-1}
		for i := 1; i < n; i++ {
			up = append(up, i-1)
			down = append(down, (i+1)%n)
			star = append(star, 0)
		}
		for _, tree := range [][]int{up, down, star} {
			for _, a := range []int{0, 1, 2, n / 2, n - 2, n - 1, n} {
				for _, b := range []int{0, 1, 2, n / 2, n - 2, n - 1, n} {
					checkTree(t, tree, a, b)
				}
			}
			if got := len(dom.Chain(tree, 0)); (got == 1) != (n <= 256) {
				t.Errorf("P11.2: the chain of 0 in a tree of %d nodes has %d", n, got)
			}
			// A ring that the first node is not in.
			wrong := slices.Clone(tree)
			wrong[1+r.Intn(n-1)] = n - 1
			checkTree(t, wrong, r.Intn(n), r.Intn(n))
		}
	}
	for range 3000 {
		n := 1 + r.Intn(256)
		tree := make([]int, n)
		name := named(r, n)
		tree[0] = -1
		for at := 1; at < n; at++ {
			tree[name[at]] = name[at-1-r.Intn(min(at, 1+r.Intn(10)))]
		}
		if !isTree(tree) {
			t.Fatalf("the test's own tree: %v", tree)
		}
		checkTree(t, tree, r.Intn(n), r.Intn(n))
		tree[r.Intn(n)] = r.Intn(n+2) - 1
		checkTree(t, tree, r.Intn(n), r.Intn(n))
	}
}

func TestWhatIsHandedIn(t *testing.T) {
	room := func(l ...int) []int { return append(l, 77, 78)[:len(l)] }
	to := append([][]int{room(1, 2), room(3), room(3), room()}, []int{9}, nil)[:4]
	check(t, to)
	for i, ways := range to {
		if behind := ways[len(ways) : len(ways)+2]; behind[0] != 77 || behind[1] != 78 {
			t.Errorf("R4: behind the ways of %d stands %v", i, behind)
		}
	}
	if behind := to[4:6]; !slices.Equal(behind[0], []int{9}) || behind[1] != nil {
		t.Errorf("R4: behind the lists stands %v", behind)
	}
	tree := room(-1, 0, 1, 1)
	checkTree(t, tree, 2, 3)
	if behind := tree[4:6]; behind[0] != 77 || behind[1] != 78 {
		t.Errorf("R4: behind the tree stands %v", behind)
	}
}

func TestWhatIsHandedOut(t *testing.T) {
	to := [][]int{{1}, {2}, nil}
	tree := []int{-1, 0, 1}
	l := [][]int{to[0], to[1], tree, dom.Tree(to), dom.Tree(to), dom.Chain(tree, 2), dom.Chain(tree, 2), dom.Chain(tree, 0)}
	for i := range l {
		room := l[i][:cap(l[i])]
		for k := range room {
			room[k] = 1000 + i
		}
	}
	for i := range l {
		for _, n := range l[i][:cap(l[i])] {
			if n != 1000+i {
				t.Error("R4: lists share memory")
			}
		}
	}
	if l := dom.Tree([][]int{{1}, {2}, nil}); !slices.Equal(l, []int{-1, 0, 1}) {
		t.Errorf("R5: %v", l)
	}
}
