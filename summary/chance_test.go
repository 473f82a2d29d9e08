package summary_test

import (
	"math/rand"
	"slices"
	"testing"

	"interdict/api"
	"interdict/interp"
	"interdict/lattice"
	"interdict/queue"
	"interdict/ssa"
	"interdict/summary"
	"interdict/sym"
)

// three is a chain, the numbers of whose levels are in another order.
const three = "level mid\nlevel high\nlevel low\nflow low mid\nflow mid high\ninput a low\ninput b mid\ninput c high\noutput x low\noutput y mid\noutput z high\ndepth 2"

// maker makes code by chance.
type maker struct {
	*rand.Rand
	p      api.Policy
	at     int
	params []int // how many each function has
	arrays int
}

// code makes a program without a fault.
func (m *maker) code() api.Code {
	for {
		c := api.Code{}
		m.arrays = 1 + m.Intn(3)
		for range m.arrays {
			c.Arrays = append(c.Arrays, api.Cell{Size: 1 + m.Intn(4), Level: m.Intn(len(m.p.Levels))})
		}
		m.params = nil
		for range 1 + m.Intn(4) {
			m.params = append(m.params, m.Intn(4))
		}
		c.Main = m.Intn(len(m.params))
		m.params[c.Main] = 0
		for _, n := range m.params {
			c.Funcs = append(c.Funcs, m.body(n))
		}
		if ssa.Right(m.p, c) {
			return c
		}
	}
}

// body makes a function, whose first value is there everywhere.
func (m *maker) body(params int) api.Body {
	b := api.Body{Params: params, Vars: params, Blocks: make([][]api.Op, 1+m.Intn(6))}
	n := len(b.Blocks)
	ends := make([]api.Op, n)
	for i := range ends {
		ends[i] = api.Op{Kind: api.KReturn, Dst: -1}
		if i < n-1 && m.Intn(8) > 0 {
			ends[i] = api.Op{Kind: api.KJump, Dst: -1, Ref: i + 1}
			if m.Intn(3) > 0 {
				ends[i].Kind, ends[i].Alt = api.KBranch, 1+m.Intn(n-1)
			}
			if m.Intn(2) == 0 && ends[i].Kind == api.KBranch {
				ends[i].Ref, ends[i].Alt = ends[i].Alt, ends[i].Ref
			}
		}
		b.Blocks[i] = []api.Op{ends[i]}
	}
	made := make([][]api.Op, n)
	for i := range n {
		made[i] = m.instrs(b, i)
		for k := range made[i] {
			m.at++
			made[i][k].At = m.at
			if made[i][k].Dst == 0 {
				made[i][k].Dst = b.Vars
				b.Vars++
			}
		}
	}
	b.Blocks = made
	m.fill(b)
	return b
}

// instrs makes a block's instructions, whose values are not told yet.
func (m *maker) instrs(b api.Body, block int) []api.Op {
	var l []api.Op
	var back []int
	for j := range b.Blocks {
		if slices.Contains(leads(b, j), block) {
			back = append(back, j)
		}
	}
	for range m.Intn(3) {
		if block > 0 {
			m.Shuffle(len(back), func(i, j int) { back[i], back[j] = back[j], back[i] })
			l = append(l, api.Op{Kind: api.KPhi, From: slices.Clone(back)})
		}
	}
	if block == 0 {
		l = append(l, api.Op{Kind: api.KInput, Ref: m.Intn(len(m.p.Ins))})
	}
	for range m.Intn(4) {
		x := api.Op{Kind: uint8(1 + m.Intn(10))}
		switch x.Kind {
		case api.KConst:
			x.Num = int64(m.Intn(5) - 1)
		case api.KBin:
			x.Op = uint8(1 + m.Intn(12))
		case api.KPhi:
			continue
		case api.KLoad, api.KWrap, api.KStore:
			x.Ref = m.Intn(m.arrays)
		case api.KCall:
			x.Ref = m.Intn(len(m.params))
		case api.KInput:
			x.Ref = m.Intn(len(m.p.Ins))
		case api.KOutput:
			x.Ref = m.Intn(len(m.p.Outs))
		case api.KRelease:
			x.Ref = m.Intn(len(m.p.Levels))
		}
		if x.Kind == api.KStore || x.Kind == api.KOutput {
			x.Dst = -1
		}
		l = append(l, x)
	}
	return append(l, end(b, block))
}

// fill gives all instructions values, most of which are there.
func (m *maker) fill(b api.Body) {
	for block, code := range b.Blocks {
		var there []int
		for i := range b.Blocks {
			// Of a block that dominates another one all values are there.
			if i != block && !slices.Contains(from(b, []int{0}, i), block) {
				there = append(there, defined(b.Blocks[i])...)
			}
		}
		for v := range b.Params {
			there = append(there, v)
		}
		for k := range code {
			x := &code[k]
			n := map[uint8]int{api.KBin: 2, api.KStore: 2, api.KLoad: 1, api.KWrap: 1, api.KOutput: 1, api.KRelease: 1, api.KBranch: 1, api.KReturn: 1, api.KPhi: len(x.From)}[x.Kind]
			if x.Kind == api.KCall {
				n = m.params[x.Ref]
			}
			for i := range n {
				all := there
				if x.Kind == api.KPhi {
					all = append(defined(b.Blocks[0]), defined(b.Blocks[x.From[i]])...)
				}
				x.Args = append(x.Args, all[m.Intn(len(all))])
			}
			if x.Dst >= 0 {
				there = append(there, x.Dst)
			}
		}
	}
}

// defined are the values that some instructions define.
func defined(code []api.Op) []int {
	var l []int
	for _, x := range code {
		if x.Dst >= 0 {
			l = append(l, x.Dst)
		}
	}
	return l
}

// makers make code for several policies.
func makers(t *testing.T, seed int64) []*maker {
	t.Helper()
	var l []*maker
	for i, s := range []string{two, three, four} {
		l = append(l, &maker{Rand: rand.New(rand.NewSource(seed + int64(i))), p: setting(t, s)})
	}
	return l
}

func TestByChance(t *testing.T) {
	kinds, lowered, rounds := map[uint8]int{}, 0, 0
	for _, m := range makers(t, 20) {
		for range 700 {
			m.p.Depth = 1 + m.Intn(4)
			c := m.code()
			r := check(t, m.p, c)
			for _, s := range r.sinks {
				kinds[s.Kind]++
			}
			for fn, s := range r.all {
				for _, level := range s.Caps {
					if level != r.top {
						lowered++
					}
				}
				for block, forks := range r.forks[fn] {
					if slices.Contains(forks, block) {
						rounds++
					}
				}
			}
		}
	}
	for kind := api.SOutput; kind <= api.SDepth; kind++ {
		if kinds[kind] < 200 {
			t.Errorf("the test's own code has only %d sinks of the kind %d", kinds[kind], kind)
		}
	}
	if lowered < 1000 || rounds < 200 {
		t.Errorf("the test's own code has only %d caps below the top, %d forks in their own regions", lowered, rounds)
	}
}

// TestTurned: with the functions in another order all that is told is in that order, and the same.
func TestTurned(t *testing.T) {
	for _, m := range makers(t, 30) {
		for range 300 {
			c := m.code()
			n := len(c.Funcs)
			turned := api.Code{Arrays: c.Arrays, Main: n - 1 - c.Main}
			other := copied(c)
			for fn := range n {
				b := other.Funcs[n-1-fn]
				for _, code := range b.Blocks {
					for k := range code {
						if code[k].Kind == api.KCall {
							code[k].Ref = n - 1 - code[k].Ref
						}
					}
				}
				turned.Funcs = append(turned.Funcs, b)
			}
			l, e := summary.All(m.p, c)
			k, f := summary.All(m.p, turned)
			slices.Reverse(k)
			if e != api.OK || f != api.OK || !equal(l, k) {
				t.Fatalf("P20.1: All(%v) = %v, but with its functions in another order %v", c, l, k)
			}
		}
	}
}

// equal: are summaries the same?
func equal(a, b []summary.Summary) bool {
	return slices.EqualFunc(a, b, func(x, y summary.Summary) bool {
		return slices.Equal(x.Values, y.Values) && slices.Equal(x.Blocks, y.Blocks) && x.Result == y.Result && x.Caps == y.Caps
	})
}

// caller judges calls one by one: each is right, if all that is done in it is, and all calls in it are.
type caller struct {
	t     *testing.T
	p     api.Policy
	c     api.Code
	all   []summary.Summary
	sinks []summary.Sink
	asked map[[8]int]int // the calls that were asked already
}

// low is the level that a label becomes.
func (j *caller) low(l api.Label, args []int, pc int) int {
	level, ok := sym.Low(j.p.Up, l, args, pc)
	if !ok {
		j.t.Fatalf("P20.1: the label %v does not fit a function of %d parameters in %v", l, len(args), j.c)
	}
	return level
}

// right: is a call right?
func (j *caller) right(fn int, args []int, pc int) bool {
	key := [8]int{fn, pc}
	copy(key[2:], args)
	if j.asked[key] > 0 {
		return true
	}
	j.asked[key] = 1
	for _, s := range j.sinks {
		if s.Fn == fn && s.Kind != api.SArg && s.Kind != api.SCall && !lattice.Leq(j.p.Up, j.low(s.Label, args, pc), s.Bound) {
			return false
		}
	}
	for block, code := range j.c.Funcs[fn].Blocks {
		for _, x := range code {
			if x.Kind != api.KCall {
				continue
			}
			var inner []int
			for _, v := range x.Args {
				inner = append(inner, j.low(j.all[fn].Values[v], args, pc))
			}
			if !j.right(x.Ref, inner, j.low(j.all[fn].Blocks[block], args, pc)) {
				return false
			}
		}
	}
	return true
}

// reaches tells which functions one reaches by calls, and itself.
func reaches(c api.Code, fn int) []int {
	l := []int{fn}
	for i := 0; i < len(l); i++ {
		for _, code := range c.Funcs[l[i]].Blocks {
			for _, x := range code {
				if x.Kind == api.KCall && !slices.Contains(l, x.Ref) {
					l = append(l, x.Ref)
				}
			}
		}
	}
	return l
}

// TestCalls: where a function's own constants are right, a call is right just if each Arg is at or below its cap, and the place, too.
func TestCalls(t *testing.T) {
	told := map[bool]int{}
	for _, m := range makers(t, 40) {
		for range 600 {
			m.p.Depth = 1 + m.Intn(4)
			c := m.code()
			all, _ := summary.All(m.p, c)
			sinks, _ := summary.Sinks(m.p, c)
			for fn := range c.Funcs {
				within := reaches(c, fn)
				if slices.ContainsFunc(sinks, func(s summary.Sink) bool {
					return slices.Contains(within, s.Fn) && !lattice.Leq(m.p.Up, s.Label.Level, s.Bound)
				}) {
					continue
				}
				for range 6 {
					args, pc := make([]int, c.Funcs[fn].Params), m.Intn(len(m.p.Up))
					want := lattice.Leq(m.p.Up, pc, all[fn].Caps[6])
					for i := range args {
						args[i] = m.Intn(len(m.p.Up))
						want = want && lattice.Leq(m.p.Up, args[i], all[fn].Caps[i])
					}
					j := &caller{t, m.p, c, all, sinks, map[[8]int]int{}}
					if got := j.right(fn, args, pc); got != want {
						t.Fatalf("P20.3: a call of %d with %v, %d is right: %v; its caps are %v, in %v", fn, args, pc, got, all[fn].Caps, c)
					}
					told[want]++
				}
			}
		}
	}
	if told[true] < 500 || told[false] < 500 {
		t.Errorf("the test's own calls: %v", told)
	}
}

// TestNothingLearned: where no sink is above its bound, and nothing is released, what a level sees of a run that ends does not hang on what is above it.
func TestNothingLearned(t *testing.T) {
	ended, seen := 0, 0
	for _, m := range makers(t, 50) {
		for range 6000 {
			c := m.code()
			sinks, _ := summary.Sinks(m.p, c)
			if slices.ContainsFunc(sinks, func(s summary.Sink) bool {
				return s.Kind == api.SRelease || !lattice.Leq(m.p.Up, s.Label.Level, s.Bound)
			}) {
				continue
			}
			for level := range m.p.Up {
				a, b := m.inputs(), m.inputs()
				b, _ = queue.Mixed(m.p, level, a, b)
				x, _ := interp.Run(m.p, c, a, 400)
				y, _ := interp.Run(m.p, c, b, 400)
				if !interp.Ended(x) || !interp.Ended(y) {
					continue
				}
				ended++
				k, l := queue.Seen(m.p, level, api.EOutput, x.Events), queue.Seen(m.p, level, api.EOutput, y.Events)
				seen += len(k)
				if x.Status != y.Status || !slices.EqualFunc(k, l, func(u, v api.Event) bool { return u.Ref == v.Ref && u.Value == v.Value }) {
					t.Fatalf("P1: with %v, %v the level %d sees of %v %d, %v and %d, %v; sinks %v", a, b, level, c, x.Status, k, y.Status, l, sinks)
				}
			}
		}
	}
	if ended < 1000 || seen < 1000 {
		t.Errorf("the test's own runs ended %d times, with %d outputs", ended, seen)
	}
}

// inputs makes enough numbers for most runs.
func (m *maker) inputs() [][]int64 {
	l := make([][]int64, len(m.p.Ins))
	for i := range l {
		for range 60 {
			l[i] = append(l[i], int64(m.Intn(5)-1))
		}
	}
	return l
}

// great is a policy of 64 levels in a chain, as many channels as there may be, and depth 64.
func great(t *testing.T) api.Policy {
	t.Helper()
	var pairs [][2]int
	for i := range 63 {
		pairs = append(pairs, [2]int{i, i + 1})
	}
	up, e := lattice.Build(64, pairs)
	if e != api.OK {
		t.Fatalf("the test's own order is refused: %d", e)
	}
	p := api.Policy{Up: up, Depth: 64}
	for i := range 64 {
		p.Levels = append(p.Levels, "l"+string(rune('A'+i/16))+string(rune('a'+i%16)))
	}
	for i := range 32 {
		p.Ins = append(p.Ins, api.Channel{Name: p.Levels[i], Level: 2 * i})
		p.Outs = append(p.Outs, api.Channel{Name: p.Levels[i], Level: 63 - 2*i})
	}
	return p
}

// ring is 64 functions that call the next one, with what came in moved on by a parameter each time; some put out what they were given.
func ring(step int) api.Code {
	c := api.Code{}
	for fn := range 64 {
		b := api.Body{Params: 6, Vars: 6, Blocks: make([][]api.Op, 1)}
		args := []int{1, 2, 3, 4, 5, 6}
		if fn == 0 {
			b.Params, b.Vars, args = 0, 0, []int{0, 0, 0, 0, 0, 0}
		}
		add := func(x api.Op) {
			if x.Dst == 0 {
				x.Dst = b.Vars
				b.Vars++
			}
			b.Blocks[0] = append(b.Blocks[0], x)
		}
		add(api.Op{Kind: api.KInput, Ref: fn / 2})
		next := (fn + step) % 64
		if next == 0 {
			args = nil
		}
		for range 58 {
			add(api.Op{Kind: api.KCall, Ref: next, Args: args})
		}
		add(api.Op{Kind: api.KOutput, Dst: -1, Ref: fn / 2, Args: []int{0}})
		add(api.Op{Kind: api.KBin, Op: api.OpAdd, Args: []int{0, b.Vars - 1}})
		add(api.Op{Kind: api.KReturn, Dst: -1, Args: []int{b.Vars - 1}})
		c.Funcs = append(c.Funcs, b)
	}
	return c
}

// ladder is a function of 64 blocks, each of which but the last ones forks to the last one, where phis take what came from all.
func ladder() api.Code {
	b := api.Body{Blocks: make([][]api.Op, 64)}
	var all []int
	for block := range b.Blocks {
		for k := range 63 {
			x := api.Op{Kind: api.KBin, Op: api.OpAdd, Dst: b.Vars, Args: []int{0, max(b.Vars-1, 0)}}
			switch {
			case block == 0 && k == 0:
				x = api.Op{Kind: api.KInput, Ref: 31}
			case block == 63 && k < 60:
				x = api.Op{Kind: api.KPhi, Dst: b.Vars, From: all}
				for _, i := range all {
					x.Args = append(x.Args, 63*i+k)
				}
			}
			b.Vars++
			b.Blocks[block] = append(b.Blocks[block], x)
		}
		e := api.Op{Kind: api.KBranch, Dst: -1, Ref: block + 1, Alt: 63, Args: []int{b.Vars - 1}}
		if block == 63 {
			e = api.Op{Kind: api.KReturn, Dst: -1, Args: []int{b.Vars - 1}}
		}
		b.Blocks[block] = append(b.Blocks[block], e)
		all = append(all, block)
	}
	return api.Code{Funcs: []api.Body{b}}
}

// stores is as many sites that store as there may be.
func stores() api.Code {
	l := []api.Op{{Kind: api.KInput, Ref: 3}}
	for range 4094 {
		l = append(l, api.Op{Kind: api.KStore, Dst: -1, Args: []int{0, 0}})
	}
	l = append(l, api.Op{Kind: api.KReturn, Dst: -1, Args: []int{0}})
	return api.Code{Arrays: []api.Cell{{Size: 3, Level: 5}}, Funcs: []api.Body{{Vars: 1, Blocks: [][]api.Op{l}}}}
}

// TestGreat holds the greatest programs against the chapter.
func TestGreat(t *testing.T) {
	p := great(t)
	for _, step := range []int{1, 63} {
		r := check(t, p, ring(step))
		if n := 64*2 + 64*58*2 + 63*58*6; len(r.sinks) != n {
			t.Errorf("P20.2: of the ring: %d sinks, want %d", len(r.sinks), n)
		}
		for fn, s := range r.all {
			// Each call may be one too many; and what comes in to one function is told by those that it is told to.
			if s.Caps[6] != 0 || s.Result.Level < 50 || (fn == 0) != (s.Result.Mask == 64) {
				t.Errorf("P20.1: of the ring's function %d: %v, %v", fn, s.Result, s.Caps)
			}
		}
	}
	r := check(t, p, ladder())
	high, low := api.Label{Level: 62, Mask: 64}, api.Label{Mask: 64}
	if s := r.all[0]; s.Result != high || s.Blocks[0] != low || s.Blocks[1] != high || s.Blocks[62] != high || s.Blocks[63] != low || len(r.sinks) != 1 {
		t.Errorf("P20.1: of the ladder: %v, %v", s.Blocks, r.sinks)
	}
	r = check(t, p, stores())
	if len(r.sinks) != 1+2*4094 || r.sinks[8188] != (summary.Sink{Kind: api.STrap, Label: api.Label{Level: 6, Mask: 64}}) {
		t.Errorf("P20.2: of the stores: %d sinks", len(r.sinks))
	}
}
