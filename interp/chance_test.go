package interp_test

import (
	"maps"
	"math/rand"
	"slices"
	"testing"

	"interdict/api"
	"interdict/arith"
	"interdict/dom"
	"interdict/graph"
	"interdict/interp"
	"interdict/ssa"
)

// reader is the chapter's own words: it does code with a call of its own for each frame, and values found by their numbers.
type reader struct {
	t      *testing.T
	p      api.Policy
	c      api.Code
	in     [][]int64
	taken  []int
	arrays map[[2]int64]int64
	fuel   int
	done   interp.Result
	kinds  map[uint8]int // how often each was done
}

// stop ends a reader's run.
type stop struct{ e api.Errno }

// read is what a run is to be.
func read(t *testing.T, p api.Policy, c api.Code, in [][]int64, fuel int) *reader {
	t.Helper()
	r := &reader{t: t, p: p, c: c, in: in, taken: make([]int, len(p.Ins)), arrays: map[[2]int64]int64{}, fuel: fuel, kinds: map[uint8]int{}}
	func() {
		defer func() { r.done.Status = recover().(stop).e }()
		r.frame(c.Main, nil, 1)
		panic(stop{api.OK})
	}()
	return r
}

// frame does a function, and tells what it returns.
func (r *reader) frame(fn int, args []int64, depth int) int64 {
	if depth > r.p.Depth {
		panic(stop{api.ErrDepth})
	}
	if depth > 1 {
		r.done.Steps++ // The call is a step, and one that was done ahead of those of the frame.
		r.kinds[api.KCall]++
	}
	b, values := r.c.Funcs[fn], map[int]int64{}
	for i, n := range args {
		values[i] = n
	}
	for from, block := -1, 0; ; {
		at := r.phis(b.Blocks[block], from, values)
		for _, x := range b.Blocks[block][at : len(b.Blocks[block])-1] {
			r.instr(fn, x, values, depth)
		}
		end := b.Blocks[block][len(b.Blocks[block])-1]
		r.ask()
		r.count(end)
		var n int64
		if end.Kind != api.KJump {
			n = r.value(values, end.Args[0])
		}
		if end.Kind == api.KReturn {
			return n
		}
		from = block
		if block = end.Ref; end.Kind == api.KBranch && n == 0 {
			block = end.Alt
		}
	}
}

// ask asks for fuel.
func (r *reader) ask() {
	if r.done.Steps >= r.fuel {
		panic(stop{api.ErrFuel})
	}
}

// count counts a step that was done.
func (r *reader) count(x api.Op) {
	r.done.Steps++
	r.kinds[x.Kind]++
}

// value is one that must be there.
func (r *reader) value(values map[int]int64, number int) int64 {
	n, is := values[number]
	if !is {
		r.t.Fatalf("the test's own code uses what is not there: %d of %v", number, r.c)
	}
	return n
}

// phis does those at a block's beginning, and tells how many there are.
func (r *reader) phis(l []api.Op, from int, values map[int]int64) int {
	before := maps.Clone(values)
	for k, x := range l {
		if x.Kind != api.KPhi {
			return k
		}
		values[x.Dst] = r.value(before, x.Args[slices.Index(x.From, from)])
		r.kinds[api.KPhi]++
	}
	return len(l)
}

// instr does an instruction that is neither phi nor end.
func (r *reader) instr(fn int, x api.Op, values map[int]int64, depth int) {
	r.ask()
	var args []int64
	for _, v := range x.Args {
		args = append(args, r.value(values, v))
	}
	var n int64
	switch x.Kind {
	case api.KConst:
		n = x.Num
	case api.KBin:
		m, e := arith.Do(x.Op, args[0], args[1])
		if e != api.OK {
			panic(stop{e})
		}
		n = m
	case api.KLoad, api.KStore:
		if args[0] < 0 || args[0] > int64(r.c.Arrays[x.Ref].Size)-1 {
			panic(stop{api.ErrIndex})
		}
		at := [2]int64{int64(x.Ref), args[0]}
		if n = r.arrays[at]; x.Kind == api.KStore {
			r.arrays[at] = args[1]
		}
	case api.KWrap:
		for n = args[0] % int64(r.c.Arrays[x.Ref].Size); n < 0; {
			n += int64(r.c.Arrays[x.Ref].Size)
		}
	case api.KInput:
		l := r.in[min(x.Ref, len(r.in)):]
		if len(l) == 0 || r.taken[x.Ref] == len(l[0]) {
			panic(stop{api.ErrDry})
		}
		n = l[0][r.taken[x.Ref]]
		r.taken[x.Ref]++
	case api.KOutput:
		r.done.Events = append(r.done.Events, api.Event{Kind: api.EOutput, Ref: x.Ref, Value: args[0], Fn: fn, At: x.At})
	case api.KRelease:
		n = args[0]
		r.done.Events = append(r.done.Events, api.Event{Kind: api.ERelease, Ref: x.Ref, Value: n, Fn: fn, At: x.At})
	case api.KCall:
		values[x.Dst] = r.frame(x.Ref, args, depth+1)
		return
	}
	if x.Dst >= 0 {
		values[x.Dst] = n
	}
	r.count(x)
}

// maker makes code by chance.
type maker struct {
	*rand.Rand
	p  api.Policy
	at int
}

// ways makes a graph, all of whose nodes are reached, and lead to an exit, and none to the first one.
func (m *maker) ways(n int) [][]int {
	for {
		to := make([][]int, n)
		for i := 1; i < n; i++ {
			j := m.Intn(i)
			if len(to[j]) < 2 {
				to[j] = append(to[j], i)
			}
		}
		for i := range to {
			for len(to[i]) < 2 && n > 1 && m.Intn(3) > 0 {
				to[i] = append(to[i], 1+m.Intn(n-1))
			}
			m.Shuffle(len(to[i]), func(a, b int) { to[i][a], to[i][b] = to[i][b], to[i][a] })
		}
		var once [][]int
		for _, l := range to {
			once = append(once, slices.Compact(slices.Sorted(slices.Values(l))))
		}
		_, lost := graph.Lost(once)
		if _, stuck := graph.Stuck(once); !lost && !stuck {
			return to
		}
	}
}

// some is an instruction without its values, of those that neither are phis nor end a block.
func (m *maker) some(c api.Code, params []int) api.Op {
	kind := []uint8{api.KConst, api.KConst, api.KBin, api.KBin, api.KBin, api.KLoad, api.KWrap, api.KWrap, api.KStore, api.KCall, api.KInput, api.KOutput, api.KRelease}[m.Intn(13)]
	x := api.Op{Kind: kind, Dst: 0}
	switch kind {
	case api.KConst:
		x.Num = int64(m.Intn(6) - 2)
	case api.KBin:
		x.Op = uint8(1 + m.Intn(12))
	case api.KLoad, api.KWrap, api.KStore:
		x.Ref = m.Intn(len(c.Arrays))
	case api.KCall:
		x.Ref = m.Intn(len(params))
	case api.KInput:
		x.Ref = m.Intn(len(m.p.Ins))
	case api.KOutput:
		x.Ref = m.Intn(len(m.p.Outs))
	case api.KRelease:
		x.Ref = m.Intn(len(m.p.Levels))
	}
	if kind == api.KStore || kind == api.KOutput {
		x.Dst = -1
	}
	return x
}

// body makes a function.
func (m *maker) body(c api.Code, params []int, number int) api.Body {
	to := m.ways(1 + m.Intn(6))
	b := api.Body{Params: params[number], Blocks: make([][]api.Op, len(to))}
	from := make([][]int, len(to))
	for i, l := range to {
		for _, j := range l {
			if !slices.Contains(from[j], i) {
				from[j] = append(from[j], i)
			}
		}
	}
	for i, l := range to {
		var code []api.Op
		for range m.Intn(4) {
			if i > 0 {
				m.Shuffle(len(from[i]), func(a, b int) { from[i][a], from[i][b] = from[i][b], from[i][a] })
				code = append(code, api.Op{Kind: api.KPhi, From: slices.Clone(from[i])})
			}
		}
		if i == 0 {
			code = append(code, api.Op{Kind: api.KInput, Ref: m.Intn(len(m.p.Ins))})
		}
		for range m.Intn(6) {
			code = append(code, m.some(c, params))
		}
		switch len(l) {
		case 0:
			code = append(code, api.Op{Kind: api.KReturn, Dst: -1})
		case 1:
			code = append(code, api.Op{Kind: api.KJump, Dst: -1, Ref: l[0]})
		case 2:
			code = append(code, api.Op{Kind: api.KBranch, Dst: -1, Ref: l[0], Alt: l[1]})
		}
		b.Blocks[i] = code
	}
	m.number(&b)
	m.fill(b, params)
	return b
}

// number numbers a function's values, and gives each instruction its place.
func (m *maker) number(b *api.Body) {
	b.Vars = b.Params
	for _, l := range b.Blocks {
		for k := range l {
			m.at++
			l[k].At = m.at
			if l[k].Dst == 0 {
				l[k].Dst = b.Vars
				b.Vars++
			}
		}
	}
}

// fill gives all instructions values that are there.
func (m *maker) fill(b api.Body, params []int) {
	to, _ := graph.Of(b)
	tree := dom.Tree(to)
	there := func(block, place int) []int {
		var l []int
		for v := range b.Params {
			l = append(l, v)
		}
		for i, code := range b.Blocks {
			if i != block && !dom.Dominates(tree, i, block) {
				continue
			}
			for k, x := range code {
				if x.Dst >= 0 && (i != block || k < place) {
					l = append(l, x.Dst)
				}
			}
		}
		return l
	}
	for i, code := range b.Blocks {
		for k := range code {
			x := &code[k]
			if x.Kind == api.KPhi {
				for _, j := range x.From {
					l := there(j, len(b.Blocks[j]))
					x.Args = append(x.Args, l[m.Intn(len(l))])
				}
				continue
			}
			n := map[uint8]int{api.KBin: 2, api.KStore: 2, api.KConst: 0, api.KInput: 0, api.KJump: 0, api.KCall: params[x.Ref%len(params)]}
			many, is := n[x.Kind]
			if !is {
				many = 1
			}
			for range many {
				x.Args = append(x.Args, m.pick(b, *x, there(i, k)))
			}
		}
	}
}

// pick picks a value that is there. An index is mostly one that was wrapped, so that runs go on.
func (m *maker) pick(b api.Body, x api.Op, l []int) int {
	if (x.Kind == api.KLoad || x.Kind == api.KStore) && len(x.Args) == 0 && m.Intn(6) > 0 {
		for _, code := range b.Blocks {
			for _, by := range code {
				if by.Kind == api.KWrap && slices.Contains(l, by.Dst) {
					return by.Dst
				}
			}
		}
	}
	return l[m.Intn(len(l))]
}

// code makes a program of a few functions.
func (m *maker) code() api.Code {
	var c api.Code
	for range 1 + m.Intn(3) {
		c.Arrays = append(c.Arrays, api.Cell{Size: 1 + m.Intn(4), Level: m.Intn(2)})
	}
	params := make([]int, 1+m.Intn(4))
	for i := range params {
		params[i] = m.Intn(4)
	}
	c.Main = m.Intn(len(params))
	params[c.Main] = 0
	for i := range params {
		c.Funcs = append(c.Funcs, m.body(c, params, i))
	}
	return c
}

// inputs makes some for the policy, each list of up to most numbers.
func (m *maker) inputs(most int) [][]int64 {
	var l [][]int64
	for range m.Intn(len(m.p.Ins) + 1) {
		var row []int64
		for range m.Intn(most + 1) {
			row = append(row, int64(m.Intn(7)-2))
		}
		l = append(l, row)
	}
	return l
}

// TestByChance holds the steps of much code against the chapter, with each fuel up to its end.
func TestByChance(t *testing.T) {
	m := &maker{Rand: rand.New(rand.NewSource(16))}
	status, kinds := map[api.Errno]int{}, map[uint8]int{}
	for n := range 6000 {
		m.p = setting(t, setup)
		m.p.Depth = 1 + m.Intn(6)
		c := m.code()
		if !ssa.Right(m.p, c) {
			t.Fatalf("the test's own code has a fault: %v", c)
		}
		in := m.inputs([]int{3, 30}[n%2])
		end := read(t, m.p, c, in, 250)
		check(t, m.p, c, in, 250, end.done)
		for range 4 {
			fuel := m.Intn(min(end.done.Steps+3, 250))
			check(t, m.p, c, in, fuel, read(t, m.p, c, in, fuel).done)
		}
		status[end.done.Status]++
		for k, n := range end.kinds {
			kinds[k] += n
		}
	}
	for _, e := range []api.Errno{api.OK, api.ErrZero, api.ErrIndex, api.ErrDepth, api.ErrDry, api.ErrFuel} {
		if status[e] < 100 {
			t.Errorf("the test's own runs end with %d only %d times", e, status[e])
		}
	}
	for k := api.KConst; k <= api.KReturn; k++ {
		if kinds[k] < 1000 {
			t.Errorf("the test's own runs do the kind %d only %d times", k, kinds[k])
		}
	}
}

// check holds a run against what it is to be.
func check(t *testing.T, p api.Policy, c api.Code, in [][]int64, fuel int, want interp.Result) {
	t.Helper()
	if got := run(t, p, c, fuel, in...); !same(got, want) {
		t.Fatalf("P4, P16.1: Run(%v, %v, %d) = %v, want %v", c, in, fuel, got, want)
	}
}

// TestWhatFollows: more fuel tells the same and more behind it, and a run that ends does not ask what else there is.
func TestWhatFollows(t *testing.T) {
	m := &maker{Rand: rand.New(rand.NewSource(17))}
	endings := 0
	for range 1500 {
		m.p = setting(t, setup)
		c, in := m.code(), m.inputs(40)
		last := run(t, m.p, c, 120, in...)
		for fuel := 119; fuel >= 0; fuel-- {
			r := run(t, m.p, c, fuel, in...)
			switch {
			case len(r.Events) > len(last.Events) || !slices.Equal(r.Events, last.Events[:len(r.Events)]):
				t.Fatalf("P16.3: of %v with fuel %d: %v, with one more: %v", c, fuel, r.Events, last.Events)
			case fuel > last.Steps && !same(r, last):
				t.Fatalf("P16.3: of %v with fuel %d: %v, with one more: %v", c, fuel, r, last)
			case r.Status == api.ErrFuel && r.Steps != fuel, r.Status != api.ErrFuel && r.Steps > fuel:
				t.Fatalf("P16.1: of %v with fuel %d: %v", c, fuel, r)
			}
			last = r
		}
		r := run(t, m.p, c, 120, in...)
		if !interp.Ended(r) {
			continue
		}
		endings++
		taken := read(t, m.p, c, in, 120).taken
		more := make([][]int64, len(m.p.Ins))
		for i, n := range taken {
			if n > 0 {
				more[i] = slices.Clone(in[i][:n])
			}
			if m.Intn(3) > 0 {
				more[i] = append(more[i], int64(m.Intn(9)), int64(m.Intn(9)))
			}
		}
		if got := run(t, m.p, c, 120, more...); !same(got, r) {
			t.Fatalf("P16.3: of %v: %v with %v, and %v with %v", c, r, in, got, more)
		}
	}
	if endings < 300 {
		t.Errorf("the test's own runs end only %d times", endings)
	}
}
