package graph_test

import (
	"math"
	"math/rand"
	"reflect"
	"slices"
	"testing"

	"interdict/api"
	"interdict/graph"
)

// far are numbers that are no node's, in whatever graph.
var far = []int{-1, -2, -256, 256, 257, 1 << 32, -1 << 32, math.MaxInt, math.MinInt}

// mayBe: may a graph be, as the chapter says?
func mayBe(to [][]int) bool {
	for i := range to {
		for a, j := range to[i] {
			if j < 0 || j >= len(to) || slices.Contains(to[i][:a], j) {
				return false
			}
		}
	}
	return len(to) >= 1 && len(to) <= 256
}

// closure tells of each two nodes whether ways lead from one to the other, by way of ever more nodes between them.
func closure(to [][]int) [][]bool {
	n := len(to)
	lead := make([][]bool, n)
	for i := range lead {
		lead[i] = make([]bool, n)
		lead[i][i] = true
		for _, j := range to[i] {
			lead[i][j] = true
		}
	}
	for between := range n {
		for i := range n {
			for j := range n {
				lead[i][j] = lead[i][j] || lead[i][between] && lead[between][j]
			}
		}
	}
	return lead
}

// order goes by ways that wait, each with how many of its node's are gone, and not by calls within calls.
func order(to [][]int) []int {
	type place struct{ node, gone int }
	been := map[int]struct{}{0: {}}
	var told []int
	for now := []place{{0, 0}}; len(now) > 0; {
		p := &now[len(now)-1]
		if p.gone == len(to[p.node]) {
			told = append([]int{p.node}, told...)
			now = now[:len(now)-1]
			continue
		}
		j := to[p.node][p.gone]
		p.gone++
		if _, is := been[j]; !is {
			been[j] = struct{}{}
			now = append(now, place{j, 0})
		}
	}
	return told
}

// back tells of each node the others, in order, in whose ways it is.
func back(to [][]int) [][]int {
	l := make([][]int, len(to))
	for j := range to {
		for i := range to {
			if slices.Contains(to[i], j) {
				l[j] = append(l[j], i)
			}
		}
	}
	return l
}

// equal: are two lists of lists the same, one that is not there being an empty one?
func equal(a, b [][]int) bool {
	return slices.EqualFunc(a, b, func(x, y []int) bool { return slices.Equal(x, y) })
}

// least tells the least of n numbers of which something is not so.
func least(n int, so func(i int) bool) (int, bool) {
	for i := range n {
		if !so(i) {
			return i, true
		}
	}
	return 0, false
}

// copied is the same graph in other memory.
func copied(to [][]int) [][]int {
	var l [][]int
	for _, ways := range to {
		l = append(l, slices.Clone(ways))
	}
	return l
}

// check holds all that is said of a graph against the chapter.
func check(t *testing.T, to [][]int) bool {
	t.Helper()
	before := copied(to)
	defer func() {
		if !equal(to, before) {
			t.Fatalf("R4: what was handed in is changed: %v, was %v", to, before)
		}
	}()
	if !mayBe(to) {
		checkNone(t, to)
		return false
	}
	if !graph.Right(to) {
		t.Fatalf("P10.1: Right(%v) = false", to)
	}
	if got := graph.Back(to); !equal(got, back(to)) {
		t.Fatalf("P10.1: Back(%v) = %v, want %v", to, got, back(to))
	}
	lead := closure(to)
	for i := range to {
		if got := graph.Reached(to, i); !slices.Equal(got, lead[i]) {
			t.Fatalf("P10.1: Reached(%v, %d) = %v, want %v", to, i, got, lead[i])
		}
	}
	for _, i := range append(far, len(to)) {
		if got := graph.Reached(to, i); (i < 0 || i >= len(to)) && len(got) != 0 {
			t.Fatalf("P10.1: Reached(%v, %d) = %v, want none", to, i, got)
		}
	}
	checkOrder(t, to, lead)
	wantLost, isLost := least(len(to), func(i int) bool { return lead[0][i] })
	if i, is := graph.Lost(to); i != wantLost || is != isLost {
		t.Fatalf("P10.3: Lost(%v) = %d, %v, want %d, %v", to, i, is, wantLost, isLost)
	}
	wantStuck, isStuck := least(len(to), func(i int) bool {
		return slices.ContainsFunc(indices(lead[i]), func(j int) bool { return len(to[j]) == 0 })
	})
	if i, is := graph.Stuck(to); i != wantStuck || is != isStuck {
		t.Fatalf("P10.3: Stuck(%v) = %d, %v, want %d, %v", to, i, is, wantStuck, isStuck)
	}
	return true
}

// indices tells at which places something is so.
func indices(l []bool) []int {
	var at []int
	for i, is := range l {
		if is {
			at = append(at, i)
		}
	}
	return at
}

// checkNone holds what is said of a graph that may not be.
func checkNone(t *testing.T, to [][]int) {
	t.Helper()
	lost, isLost := graph.Lost(to)
	stuck, isStuck := graph.Stuck(to)
	if graph.Right(to) || len(graph.Back(to)) != 0 || len(graph.Order(to)) != 0 || lost != 0 || isLost || stuck != 0 || isStuck {
		t.Fatalf("P10.1: something is told of %v, which may not be", to)
	}
	for _, i := range append(far, 0, 1, len(to)-1, len(to)) {
		if got := graph.Reached(to, i); len(got) != 0 {
			t.Fatalf("P10.1: Reached(%v, %d) = %v, want none", to, i, got)
		}
	}
}

// checkOrder holds the order against another walk, and against what the chapter says of it.
func checkOrder(t *testing.T, to [][]int, lead [][]bool) {
	t.Helper()
	got := graph.Order(to)
	if !slices.Equal(got, order(to)) {
		t.Fatalf("P10.2: Order(%v) = %v, want %v", to, got, order(to))
	}
	if !slices.Equal(slices.Sorted(slices.Values(got)), indices(lead[0])) {
		t.Fatalf("P10.2: Order(%v) = %v has not just what is reached", to, got)
	}
	for a, i := range got {
		for _, j := range to[i] {
			if slices.Index(got, j) < a && !lead[j][i] {
				t.Fatalf("P10.2: Order(%v) = %v has %d ahead of %d", to, got, j, i)
			}
		}
	}
}

func TestExamples(t *testing.T) {
	to := [][]int{{1, 2}, {3}, {3}, nil}
	if l := graph.Order(to); !slices.Equal(l, []int{0, 2, 1, 3}) {
		t.Errorf("P10.2: %v", l)
	}
	if l := graph.Order([][]int{{2, 1}, {3}, {3}, nil}); !slices.Equal(l, []int{0, 1, 2, 3}) {
		t.Errorf("P10.2: %v", l)
	}
	if b := graph.Back(to); !equal(b, [][]int{nil, {0}, {0}, {1, 2}}) {
		t.Errorf("P10.1: %v", b)
	}
	one := [][]int{{0}}
	if i, is := graph.Stuck(one); i != 0 || !is {
		t.Errorf("P10.3: %d, %v", i, is)
	}
	if i, is := graph.Lost(one); i != 0 || is {
		t.Errorf("P10.3: %d, %v", i, is)
	}
	for _, to := range [][][]int{to, one, {nil}, {{}}, {{1}, {0}}, {{1}, {0, 2}, nil}, {nil, nil}, {nil, {0}}, {{0, 1}, {0}, {1, 3}, nil}} {
		if !check(t, to) {
			t.Errorf("the test's own reading refuses %v", to)
		}
	}
}

func TestWhatMayNotBe(t *testing.T) {
	for _, to := range [][][]int{nil, {}, {{1}}, {{-1}}, {{0, 0}}, {nil, {0, 1, 0}}, {{1}, {2}}, {{1, 0, 1}, nil}, {nil, {1, 2}}} {
		if check(t, to) {
			t.Errorf("the test's own reading takes %v", to)
		}
	}
	for _, n := range []int{1, 2, 5, 255, 256} {
		for _, i := range append(far, n) {
			for at := range n {
				to := make([][]int, n)
				to[at] = []int{0, i}
				if i >= 0 && i < n {
					continue
				}
				checkNone(t, to)
				to[at] = []int{i}
				checkNone(t, to)
			}
		}
	}
	for _, n := range []int{257, 258, 1000, 1 << 16} {
		checkNone(t, make([][]int, n))
	}
	checkNone(t, [][]int{make([]int, 1<<20)})
}

// lists are all lists of ways to n nodes, the ones with a way twice and with one to no node among them.
func lists(n int) [][]int {
	l := [][]int{nil}
	for at := 0; at < len(l); at++ {
		for j := -1; j <= n && len(l[at]) < n; j++ {
			l = append(l, append(slices.Clone(l[at]), j))
		}
	}
	return l
}

func TestAllSmallGraphs(t *testing.T) {
	may := map[bool]int{}
	for n := 1; n <= 2; n++ {
		l := lists(n)
		for _, first := range l {
			if n == 1 {
				may[check(t, [][]int{first})]++
				continue
			}
			for _, second := range l {
				may[check(t, [][]int{first, second})]++
			}
		}
	}
	l := slices.DeleteFunc(lists(3), func(ways []int) bool { return !mayBe([][]int{ways, nil, nil}) })
	for _, first := range l {
		for _, second := range l {
			for _, third := range l {
				may[check(t, [][]int{first, second, third})]++
			}
		}
	}
	if may[true] != 2+25+4096 || may[false] != 2+21*21-25 {
		t.Errorf("the test's own graphs: %v", may)
	}
}

// chance is a graph of n nodes, each with so many ways at most.
func chance(r *rand.Rand, n, most int) [][]int {
	to := make([][]int, n)
	for i := range to {
		to[i] = r.Perm(n)[:r.Intn(min(n, most)+1)]
	}
	return to
}

func TestGraphsByChance(t *testing.T) {
	r := rand.New(rand.NewSource(13))
	for range 20000 {
		n := 1 + r.Intn(9)
		to := chance(r, n, 1+r.Intn(4))
		if !check(t, to) {
			t.Fatalf("the test's own reading refuses %v", to)
		}
		at := r.Intn(n)
		to[at] = append(to[at], []int{-1, r.Intn(n), n}[r.Intn(3)])
		check(t, to)
	}
	for _, n := range []int{63, 64, 65, 255, 256} {
		for _, most := range []int{1, 2, 3, n} {
			check(t, chance(r, n, most))
		}
	}
}

func TestGreatGraphs(t *testing.T) {
	for _, n := range []int{255, 256, 257} {
		line, ring, turned, full := make([][]int, n), make([][]int, n), make([][]int, n), make([][]int, n)
		for i := range n {
			if i+1 < n {
				line[i] = []int{i + 1}
			}
			if i > 0 {
				turned[i] = []int{i - 1}
			}
			ring[i] = []int{(i + 1) % n}
			for j := range n {
				full[i] = append(full[i], j)
			}
		}
		for _, to := range [][][]int{line, ring, turned, full} {
			if may := check(t, to); may != (n <= 256) {
				t.Errorf("P10.1: a graph of %d nodes: %v", n, may)
			}
		}
	}
}

func TestReachedIsAsLongAsTheGraph(t *testing.T) {
	for _, n := range []int{1, 2, 255, 256} {
		if l := graph.Reached(make([][]int, n), n-1); len(l) != n || !l[n-1] {
			t.Errorf("P10.1: Reached of %d nodes has %d", n, len(l))
		}
	}
}

// op is an instruction of a kind that leads somewhere.
func op(kind uint8, ref, alt int) api.Op { return api.Op{Kind: kind, Dst: -1, Ref: ref, Alt: alt} }

// of is the graph of a function's blocks, as the chapter says.
func of(b api.Body) ([][]int, bool) {
	to := make([][]int, len(b.Blocks))
	for i, l := range b.Blocks {
		if len(l) == 0 {
			return nil, false
		}
		end := l[len(l)-1]
		if end.Kind != api.KJump && end.Kind != api.KBranch && end.Kind != api.KReturn {
			return nil, false
		}
		if end.Kind != api.KReturn {
			to[i] = append(to[i], end.Ref)
		}
		if end.Kind == api.KBranch && end.Alt != end.Ref {
			to[i] = append(to[i], end.Alt)
		}
	}
	if !mayBe(to) {
		return nil, false
	}
	return to, true
}

// checkOf holds what is said of a function against the chapter.
func checkOf(t *testing.T, b api.Body) bool {
	t.Helper()
	want, is := of(b)
	if got, ok := graph.Of(b); ok != is || !equal(got, want) {
		t.Fatalf("P10.4: Of(%v) = %v, %v, want %v, %v", b, got, ok, want, is)
	}
	return is
}

func TestOf(t *testing.T) {
	code := op(api.KConst, 0, 0)
	for _, c := range []struct {
		blocks [][]api.Op
		want   [][]int
		is     bool
	}{
		{[][]api.Op{{op(api.KReturn, 0, 0)}}, [][]int{nil}, true},
		{[][]api.Op{{op(api.KReturn, 7, 9)}}, [][]int{nil}, true},
		{[][]api.Op{{code, code, op(api.KJump, 0, 0)}}, [][]int{{0}}, true},
		{[][]api.Op{{op(api.KJump, 1, 99)}, {op(api.KReturn, 0, 0)}}, [][]int{{1}, nil}, true},
		{[][]api.Op{{code, op(api.KBranch, 1, 0)}, {code, op(api.KReturn, 0, 0)}}, [][]int{{1, 0}, nil}, true},
		{[][]api.Op{{op(api.KBranch, 0, 1)}, {op(api.KBranch, 1, 1)}}, [][]int{{0, 1}, {1}}, true},
		{[][]api.Op{{op(api.KJump, 0, 0), op(api.KReturn, 0, 0), op(api.KJump, 0, 0)}}, [][]int{{0}}, true},
		{nil, nil, false},
		{[][]api.Op{{}}, nil, false},
		{[][]api.Op{{code}}, nil, false},
		{[][]api.Op{{op(api.KReturn, 0, 0), code}}, nil, false},
		{[][]api.Op{{op(api.KReturn, 0, 0)}, nil}, nil, false},
		{[][]api.Op{nil, {op(api.KReturn, 0, 0)}}, nil, false},
		{[][]api.Op{{op(api.KJump, 1, 0)}}, nil, false},
		{[][]api.Op{{op(api.KJump, -1, 0)}}, nil, false},
		{[][]api.Op{{op(api.KBranch, 0, 1)}}, nil, false},
		{[][]api.Op{{op(api.KBranch, 1, 0)}}, nil, false},
		{[][]api.Op{{op(api.KBranch, 1, 1)}}, nil, false},
		{[][]api.Op{{op(api.KBranch, 0, -1)}}, nil, false},
	} {
		b := api.Body{Blocks: c.blocks}
		if got, is := graph.Of(b); is != c.is || !equal(got, c.want) {
			t.Errorf("P10.4: Of(%v) = %v, %v, want %v, %v", b, got, is, c.want, c.is)
		}
		checkOf(t, b)
	}
	for kind := range 256 {
		is := checkOf(t, api.Body{Blocks: [][]api.Op{{op(uint8(kind), 0, 0)}}})
		if is != (kind == 11 || kind == 12 || kind == 13) {
			t.Errorf("P10.4: a block that ends with the kind %d: %v", kind, is)
		}
	}
	for _, i := range far {
		for _, kind := range []uint8{api.KJump, api.KBranch, api.KReturn} {
			checkOf(t, api.Body{Blocks: [][]api.Op{{op(kind, i, 0)}}})
			checkOf(t, api.Body{Blocks: [][]api.Op{{op(kind, 0, i)}}})
			checkOf(t, api.Body{Blocks: [][]api.Op{{op(kind, i, i)}}})
		}
	}
}

func TestOfManyBlocks(t *testing.T) {
	for _, n := range []int{64, 65, 255, 256, 257, 1 << 16} {
		b := api.Body{Blocks: slices.Repeat([][]api.Op{{op(api.KReturn, 0, 0)}}, n)}
		b.Blocks[0] = []api.Op{op(api.KBranch, n-1, 0)}
		if is := checkOf(t, b); is != (n <= 256) {
			t.Errorf("P10.4: of %d blocks: %v", n, is)
		}
	}
}

func TestOfByChance(t *testing.T) {
	r := rand.New(rand.NewSource(14))
	got := map[bool]int{}
	kinds := []uint8{api.KJump, api.KBranch, api.KBranch, api.KBranch, api.KReturn, api.KReturn}
	for range 30000 {
		n := 1 + r.Intn(5)
		var b api.Body
		for range n {
			var l []api.Op
			for range 1 + r.Intn(3) {
				l = append(l, op(kinds[r.Intn(6)], r.Intn(n), r.Intn(n)))
			}
			b.Blocks = append(b.Blocks, l)
		}
		if r.Intn(3) == 0 {
			l := b.Blocks[r.Intn(n)]
			x := &l[r.Intn(len(l))]
			switch r.Intn(3) {
			case 0:
				x.Kind = uint8(r.Intn(15))
			case 1:
				x.Ref = r.Intn(n+2) - 1
			default:
				x.Alt = r.Intn(n+2) - 1
			}
		}
		got[checkOf(t, b)]++
	}
	if got[true] < 10000 || got[false] < 1000 {
		t.Errorf("the test's own functions: %v", got)
	}
}

func TestWhatIsHandedIn(t *testing.T) {
	room := func(l ...int) []int { return append(l, 77, 78)[:len(l)] }
	to := append([][]int{room(1, 2), room(3), room(3), room()}, []int{9}, nil)[:4]
	check(t, to)
	for i, ways := range to {
		if behind := ways[len(ways) : len(ways)+2]; behind[0] != 77 || behind[1] != 78 {
			t.Errorf("R4: behind the ways of %d stands %v", i, behind)
		}
	}
	if behind := to[4:6]; !slices.Equal(behind[0], []int{9}) || behind[1] != nil {
		t.Errorf("R4: behind the lists stands %v", behind)
	}
	b := api.Body{Params: 3, Vars: 9, Blocks: [][]api.Op{
		append([]api.Op{op(api.KBranch, 1, 0)}, op(api.KJump, 5, 5))[:1], {{Kind: api.KReturn, Dst: -1, Args: room(0)}},
	}}
	graph.Of(b)
	if !reflect.DeepEqual(b.Blocks[0][:2], []api.Op{op(api.KBranch, 1, 0), op(api.KJump, 5, 5)}) || !reflect.DeepEqual(b.Blocks[1], []api.Op{{Kind: api.KReturn, Dst: -1, Args: []int{0}}}) {
		t.Errorf("R4: the function is %v", b)
	}
}

// apart holds that no two of some lists share memory, the spare room behind them neither.
func apart(t *testing.T, what string, l [][]int) {
	t.Helper()
	for i := range l {
		room := l[i][:cap(l[i])]
		for k := range room {
			room[k] = 1000 + i
		}
	}
	for i := range l {
		for _, n := range l[i][:cap(l[i])] {
			if n != 1000+i {
				t.Errorf("R4: lists of %s share memory", what)
			}
		}
	}
}

func TestWhatIsHandedOut(t *testing.T) {
	to := [][]int{{1, 2, 3}, {3, 0}, {3}, nil, {0, 1, 2, 3, 4}}
	b := api.Body{Blocks: [][]api.Op{{op(api.KBranch, 1, 2)}, {op(api.KJump, 2, 0)}, {op(api.KBranch, 0, 1)}, {op(api.KReturn, 0, 0)}}}
	of, _ := graph.Of(b)
	again, _ := graph.Of(b)
	apart(t, "Back", slices.Concat(to, graph.Back(to), graph.Back(to)))
	to = [][]int{{1, 2}, {2, 0}, {1}}
	apart(t, "Order", append(to, graph.Order(to), graph.Order(to)))
	apart(t, "Of", slices.Concat(of, again))
	checkOf(t, b)
	to = [][]int{{1}, {0}}
	first, second := graph.Reached(to, 0), graph.Reached(to, 0)
	first[0] = false
	if !second[0] {
		t.Error("R4: two answers of Reached share memory")
	}
}
