package sinks_test

import (
	"math/rand"
	"slices"
	"strconv"
	"strings"
	"testing"

	"interdict/api"
	"interdict/arith"
	"interdict/calls"
	"interdict/graph"
	"interdict/interp"
	"interdict/lattice"
	"interdict/post"
	"interdict/queue"
	"interdict/sinks"
	"interdict/sites"
	"interdict/summary"
)

// three is a chain, the numbers of whose levels are in another order.
const three = "level mid\nlevel high\nlevel low\nflow low mid\nflow mid high\ninput a low\ninput b mid\ninput c high\noutput x low\noutput y mid\noutput z high\ndepth 2"

// maker writes programs by chance, without a fault.
type maker struct {
	*rand.Rand
	t      *testing.T
	p      api.Policy
	params []int // how many each function has
	main   int
	arrays int
	most   int    // how many instructions stand together at most
	used   int    // how many names are used
	block  string // the one that is being written
	text   strings.Builder
}

// makers write programs for several policies.
func makers(t *testing.T, seed int64) []*maker {
	t.Helper()
	var l []*maker
	for i, s := range []string{two, three, four} {
		l = append(l, &maker{Rand: rand.New(rand.NewSource(seed + int64(i))), t: t, p: setting(t, s), most: 4})
	}
	return l
}

// program writes a program of so many functions.
func (m *maker) program(funcs, depth int) (string, api.Code) {
	m.text.Reset()
	m.p.Depth = 1 + m.Intn(4)
	m.arrays, m.params, m.main, m.used = 1+m.Intn(2), nil, m.Intn(funcs), 0
	for i := range m.arrays {
		m.write("array t"+strconv.Itoa(i), strconv.Itoa(1+m.Intn(3)), m.level())
	}
	for fn := range funcs {
		m.params = append(m.params, m.Intn(4))
		if fn == m.main {
			m.params[fn] = 0
		}
	}
	for fn, n := range m.params {
		var there []string
		for range n {
			there = append(there, m.name())
		}
		m.write("fn", m.function(fn), "(", strings.Join(there, ", "), ") {")
		m.open(m.name())
		there = append(there, m.define("const", strconv.Itoa(m.Intn(3))))
		m.write("return", m.any(m.steps(there, depth)), "}")
	}
	s := m.text.String()
	return s, code(m.t, m.p, s)
}

// write writes some words.
func (m *maker) write(words ...string) { m.text.WriteString(strings.Join(words, " ") + " ") }

// name is one that is not used yet.
func (m *maker) name() string {
	m.used++
	return "v" + strconv.Itoa(m.used)
}

// function is a function's name.
func (m *maker) function(fn int) string {
	if fn == m.main {
		return "main"
	}
	return "f" + strconv.Itoa(fn)
}

// open begins a block.
func (m *maker) open(name string) {
	m.block = name
	m.write(name, ":")
}

// define writes an instruction that defines a value, which it tells.
func (m *maker) define(words ...string) string {
	name := m.name()
	m.write(append([]string{name, "="}, words...)...)
	return name
}

// any is one of some words.
func (m *maker) any(l []string) string { return l[m.Intn(len(l))] }

// level is the name of a level.
func (m *maker) level() string { return m.any(m.p.Levels) }

// array is the name of an array.
func (m *maker) array() string { return "t" + strconv.Itoa(m.Intn(m.arrays)) }

// channel is the name of a channel.
func (m *maker) channel(l []api.Channel) string { return l[m.Intn(len(l))].Name }

// steps writes some instructions, forks and loops, and tells which values are there behind them.
func (m *maker) steps(there []string, depth int) []string {
	there = slices.Clone(there)
	for range m.Intn(m.most + 1) {
		if name := m.instr(there); name != "" {
			there = append(there, name)
		}
	}
	if depth == 0 {
		return there
	}
	switch m.Intn(5) {
	case 0:
		return m.forked(there, depth-1)
	case 1:
		return m.looped(there, depth-1)
	case 2:
		// One of the ways ends here.
		last, on := m.name(), m.name()
		m.write("branch", m.any(there), last, on)
		m.open(last)
		m.write("return", m.any(m.steps(there, depth-1)))
		m.open(on)
	case 3:
		return m.steps(m.forked(there, depth-1), depth-1)
	}
	return there
}

// forked writes a fork with one or two ways to where they come together.
func (m *maker) forked(there []string, depth int) []string {
	left, right, behind := m.name(), m.name(), m.name()
	one := m.Intn(2) == 0
	if one {
		right = behind
	}
	m.write("branch", m.any(there), left, right)
	from, other := m.block, m.any(there)
	m.open(left)
	value := m.any(m.steps(there, depth))
	m.write("jump", behind)
	left = m.block
	if !one {
		m.open(right)
		other = m.any(m.steps(there, depth))
		m.write("jump", behind)
		from = m.block
	}
	m.open(behind)
	return append(there, m.define("phi [", left+":", value+",", from+":", other, "]"))
}

// looped writes a loop, which goes on as long as a value that is counted down is not 0.
func (m *maker) looped(there []string, depth int) []string {
	head, body, behind, before := m.name(), m.name(), m.name(), m.block
	count, next, first := m.name(), m.name(), m.any(there)
	one := m.define("const", "1")
	m.write("jump", head)
	m.open(head)
	m.write(count, "= phi [", before+":", first+",", body+"x:", next, "]")
	m.write("branch", count, body, behind)
	m.open(body)
	m.steps(append(there, count, one), depth)
	m.write("jump", body+"x")
	m.open(body + "x")
	m.write(next, "= sub", count, one, "jump", head)
	m.open(behind)
	return append(there, count, one)
}

// instr writes an instruction, and tells the value that it defines.
func (m *maker) instr(there []string) string {
	v := func() string { return m.any(there) }
	switch m.Intn(10) {
	case 0:
		return m.define("const", strconv.Itoa(m.Intn(4)-1))
	case 1:
		return m.define(arith.Name(uint8(1+m.Intn(12))), v(), v())
	case 2:
		return m.define("load", m.array(), v())
	case 3:
		array := m.array()
		return m.define("load", array, m.define("wrap", array, v()))
	case 4:
		m.write("store", m.array(), v(), v())
	case 5:
		fn := m.Intn(len(m.params))
		var args []string
		for range m.params[fn] {
			args = append(args, v())
		}
		return m.define("call", m.function(fn), "(", strings.Join(args, ", "), ")")
	case 6, 7:
		return m.define("input", m.channel(m.p.Ins))
	case 8:
		m.write("output", m.channel(m.p.Outs), v())
	case 9:
		return m.define("release", v(), m.level())
	}
	return ""
}

// condition is that one level is at or below another one, which is a typing's, or fixed.
type condition struct {
	low, high *int
	fixed     bool
}

// conditions are all those that the chapter asks of a typing.
func conditions(p api.Policy, c api.Code, t []sinks.Typing) []condition {
	a := &asker{p: p, c: c, t: t}
	risks, _ := sites.All(p, c)
	for _, s := range risks {
		a.most(least(p), &t[s.Fn].Values[s.Value], &t[s.Fn].Blocks[s.Block])
	}
	deep, _ := calls.Deep(p, c)
	for fn, b := range c.Funcs {
		blocks := t[fn].Blocks
		to, _ := graph.Of(b)
		forks := make([]*int, len(to)) // the levels of what they branch on
		for i, code := range b.Blocks {
			if len(to[i]) == 2 {
				forks[i] = &t[fn].Values[code[len(code)-1].Args[0]]
			}
			for _, held := range post.Region(to, i) {
				a.least(&blocks[held], forks[i])
			}
		}
		for i, code := range b.Blocks {
			a.least(&blocks[i], &t[fn].Place)
			for _, x := range code {
				a.instr(fn, x, &blocks[i])
				for _, from := range x.From {
					a.least(&t[fn].Values[x.Dst], &blocks[from])
					if forks[from] != nil {
						a.least(&t[fn].Values[x.Dst], forks[from])
					}
				}
				if x.Kind == api.KCall && deep[fn] {
					a.most(least(p), &blocks[i])
				}
			}
		}
	}
	return a.list
}

// asker lists what is asked of a typing.
type asker struct {
	p    api.Policy
	c    api.Code
	t    []sinks.Typing
	list []condition
}

// least asks that a level is at least some others.
func (a *asker) least(high *int, lows ...*int) {
	for _, low := range lows {
		a.list = append(a.list, condition{low, high, false})
	}
}

// most asks that some levels are at most a fixed one.
func (a *asker) most(level int, lows ...*int) {
	for _, low := range lows {
		a.list = append(a.list, condition{low, &level, true})
	}
}

// instr asks what an instruction asks by itself.
func (a *asker) instr(fn int, x api.Op, here *int) {
	fixed := func(level int) *int { return &level }
	own, value := a.t[fn], new(int)
	var args []*int
	for _, v := range x.Args {
		args = append(args, &own.Values[v])
	}
	if x.Dst >= 0 {
		value = &own.Values[x.Dst]
		a.least(value, here)
	}
	switch x.Kind {
	case api.KBin, api.KWrap, api.KPhi:
		a.least(value, args...)
	case api.KLoad:
		a.least(value, args[0], fixed(a.c.Arrays[x.Ref].Level))
	case api.KInput:
		a.least(value, fixed(a.p.Ins[x.Ref].Level))
		a.most(a.p.Ins[x.Ref].Level, here)
	case api.KRelease:
		a.least(value, fixed(x.Ref))
		a.most(x.Ref, here)
	case api.KOutput:
		a.most(a.p.Outs[x.Ref].Level, args[0], here)
	case api.KStore:
		a.most(a.c.Arrays[x.Ref].Level, args[0], args[1], here)
	case api.KReturn:
		a.least(&a.t[fn].Result, args[0], here)
	case api.KCall:
		a.least(value, &a.t[x.Ref].Result)
		a.least(&a.t[x.Ref].Place, here)
		for i, arg := range args {
			a.least(&a.t[x.Ref].Values[i], arg)
		}
	}
}

// all: do all conditions hold?
func all(p api.Policy, l []condition) bool {
	return !slices.ContainsFunc(l, func(x condition) bool { return !lattice.Leq(p.Up, *x.low, *x.high) })
}

// raise raises a typing's levels till all conditions hold but those of which one level is fixed.
func raise(p api.Policy, l []condition) {
	for again := true; again; {
		again = false
		for _, x := range l {
			if !x.fixed && !lattice.Leq(p.Up, *x.low, *x.high) {
				*x.high, _ = lattice.Join(p.Up, *x.low, *x.high)
				again = true
			}
		}
	}
}

// levels are all those of a typing.
func levels(t []sinks.Typing) []*int {
	var l []*int
	for fn := range t {
		for i := range t[fn].Values {
			l = append(l, &t[fn].Values[i])
		}
		for i := range t[fn].Blocks {
			l = append(l, &t[fn].Blocks[i])
		}
		l = append(l, &t[fn].Result, &t[fn].Place)
	}
	return l
}

// hold holds what is said of a typing against its conditions.
func hold(t *testing.T, p api.Policy, text string, c api.Code, given []sinks.Typing, l []condition) bool {
	t.Helper()
	want := all(p, l)
	if is, e := sinks.Holds(p, c, given); is != want || e != api.OK {
		t.Fatalf("P21.2: Holds(%v) of %q is %v, %d, want %v", given, text, is, e, want)
	}
	if want && !sinks.Accepts(p, c) {
		t.Fatalf("P5, P21.3: %v holds for %q, depth %d, which is not accepted", given, text, p.Depth)
	}
	return want
}

// TestTypings: typings that are raised as far as they must be, and such with another level.
func TestTypings(t *testing.T) {
	told := map[bool]int{}
	for _, m := range makers(t, 60) {
		for round := range 1500 {
			if m.most = 1; round%3 == 0 {
				m.most = 4
			}
			text, c := m.program(1+m.Intn(3), m.Intn(3))
			given := everywhere(c, least(m.p))
			l := conditions(m.p, c, given)
			for _, x := range levels(given) {
				if m.Intn(20) == 0 {
					*x = m.Intn(len(m.p.Levels))
				}
			}
			told[hold(t, m.p, text, c, given, l)]++
			raise(m.p, l)
			told[hold(t, m.p, text, c, given, l)]++
			for range 8 {
				x := levels(given)[m.Intn(len(levels(given)))]
				was := *x
				*x = m.Intn(len(m.p.Levels))
				told[hold(t, m.p, text, c, given, l)]++
				*x = was
			}
		}
	}
	if told[true] < 3000 || told[false] < 3000 {
		t.Errorf("the test's own typings: %v", told)
	}
}

// TestOneFunction: what is one function alone is accepted just if the least typing of all holds.
func TestOneFunction(t *testing.T) {
	told := map[bool]int{}
	for _, m := range makers(t, 70) {
		for round := range 2000 {
			m.most = 1 + round%3
			text, c := m.program(1, m.Intn(4))
			given := everywhere(c, least(m.p))
			l := conditions(m.p, c, given)
			raise(m.p, l)
			want := hold(t, m.p, text, c, given, l)
			if sinks.Accepts(m.p, c) != want {
				t.Fatalf("P21.1: Accepts of %q, depth %d, is not %v", text, m.p.Depth, want)
			}
			told[want]++
		}
	}
	if told[true] < 500 || told[false] < 500 {
		t.Errorf("the test's own programs: %v", told)
	}
}

// TestAllTypings holds all typings of small programs against their conditions.
func TestAllTypings(t *testing.T) {
	p, told := setting(t, two), map[bool]int{}
	for _, text := range []string{
		"fn main() { a: x = input key i = wrap t x v = load t i return v }",
		"fn main() { a: x = input net y = load t x store t x y return x }",
		"fn main() { a: x = input net y = release x low branch y b c b: jump c c: return x }",
		"fn main() { a: x = input key branch x b c b: z = const 2 jump c c: y = phi [a: x, b: z] return y }",
		"fn main() { a: x = input net output net x output vault x y = add x x return y }",
		"fn main() { a: x = const 1 y = div x x return y } fn f(n) { a: return n }",
		"fn main() { a: x = input net y = call f(x) return y } fn f(n) { a: return n }",
		"fn f(n) { a: x = call f(n) return x } fn main() { a: x = const 1 y = call f(x) return x }",
	} {
		text = "array t 2 low " + text
		c := code(t, p, text)
		given := everywhere(c, 0)
		conditions, places, any := conditions(p, c, given), levels(given), false
		for bits := range 1 << len(places) {
			for i, x := range places {
				*x = bits >> i & 1
			}
			is := hold(t, p, text, c, given, conditions)
			any = any || is
			told[is]++
		}
		if any != sinks.Accepts(p, c) {
			t.Errorf("P21.1: of %q some typing holds: %v", text, any)
		}
	}
	if told[true] < 50 || told[false] < 1000 {
		t.Errorf("the test's own typings: %v", told)
	}
}

// within tells which functions one reaches by its calls, and itself.
func within(c api.Code, fn int) []int {
	l := []int{fn}
	for i := 0; i < len(l); i++ {
		for _, code := range c.Funcs[l[i]].Blocks {
			for _, x := range code {
				if x.Kind == api.KCall && !slices.Contains(l, x.Ref) {
					l = append(l, x.Ref)
				}
			}
		}
	}
	return l
}

// above tells which sinks of some functions are above their bounds.
func above(p api.Policy, c api.Code, funcs []int) []api.Flow {
	all, _ := summary.Sinks(p, c)
	var l []api.Flow
	for _, s := range all {
		if slices.Contains(funcs, s.Fn) && !lattice.Leq(p.Up, s.Label.Level, s.Bound) {
			l = append(l, api.Flow{Kind: s.Kind, Fn: s.Fn, At: s.At, Arg: s.Arg, From: s.Label.Level, Bound: s.Bound})
		}
	}
	return l
}

// TestByChance: flows are those of the functions that count.
func TestByChance(t *testing.T) {
	kinds := map[uint8]int{}
	for _, m := range makers(t, 80) {
		for round := range 2000 {
			m.most = 1 + round%4
			text, c := m.program(1+m.Intn(5), m.Intn(3))
			want := above(m.p, c, within(c, c.Main))
			got, e := sinks.Flows(m.p, c)
			if e != api.OK || !slices.Equal(got, want) || sinks.Accepts(m.p, c) != (len(want) == 0) {
				t.Fatalf("P21.1: Flows of %q, depth %d: %v, %d, want %v", text, m.p.Depth, got, e, want)
			}
			if is, e := sinks.Judge(m.p, c, c.Main, nil, least(m.p)); is != (len(want) == 0) || e != api.OK {
				t.Fatalf("P21.1, P21.2: Judge of main of %q: %v, %d", text, is, e)
			}
			for _, f := range want {
				kinds[f.Kind]++
			}
		}
	}
	for kind := api.SOutput; kind <= api.SDepth; kind++ {
		if kinds[kind] < 100 {
			t.Errorf("the test's own programs have only %d flows of the kind %d", kinds[kind], kind)
		}
	}
}

// TestJudgeByChance: calls are judged by what is reached, and by the caps.
func TestJudgeByChance(t *testing.T) {
	told := map[bool]int{}
	for _, m := range makers(t, 85) {
		for round := range 500 {
			m.most = 1 + round%3
			text, c := m.program(1+m.Intn(5), m.Intn(2))
			all, _ := summary.All(m.p, c)
			for fn, s := range all {
				clean := len(above(m.p, c, within(c, fn))) == 0
				for range 2 {
					told[judged(t, m, text, c, fn, s, clean)]++
				}
			}
		}
	}
	if told[true] < 800 || told[false] < 800 {
		t.Errorf("the test's own calls: %v", told)
	}
}

// judged holds what is said of a call by chance against the caps, and of one that is given no more than that.
func judged(t *testing.T, m *maker, text string, c api.Code, fn int, s summary.Summary, clean bool) bool {
	t.Helper()
	args, place := make([]int, m.params[fn]), m.Intn(len(m.p.Levels))
	want := clean && lattice.Leq(m.p.Up, place, s.Caps[6])
	lower := make([]int, len(args))
	for i := range args {
		args[i] = m.Intn(len(m.p.Levels))
		want = want && lattice.Leq(m.p.Up, args[i], s.Caps[i])
		lower[i], _ = lattice.Meet(m.p.Up, args[i], m.Intn(len(m.p.Levels)))
	}
	is, e := sinks.Judge(m.p, c, fn, args, place)
	if is != want || e != api.OK {
		t.Fatalf("P21.2: Judge of %q, depth %d, %d, %v, %d is %v, %d, want %v", text, m.p.Depth, fn, args, place, is, e, want)
	}
	low, _ := lattice.Meet(m.p.Up, place, m.Intn(len(m.p.Levels)))
	if lowered, _ := sinks.Judge(m.p, c, fn, lower, low); is && !lowered {
		t.Fatalf("P21.3: Judge of %q takes %d, %v, %d, but not %v, %d", text, fn, args, place, lower, low)
	}
	return is
}

// TestNothingLearned: of what is accepted, and releases nothing, a level sees nothing that hangs on what is above it.
func TestNothingLearned(t *testing.T) {
	ended, seen := 0, 0
	for _, m := range makers(t, 90) {
		for round := range 2500 {
			m.most = 1 + round%4
			text, c := m.program(1+m.Intn(3), m.Intn(3))
			if strings.Contains(text, "release") || !sinks.Accepts(m.p, c) {
				continue
			}
			for level := range m.p.Levels {
				a, b := m.inputs(), m.inputs()
				b, _ = queue.Mixed(m.p, level, a, b)
				x, _ := interp.Run(m.p, c, a, 500)
				y, _ := interp.Run(m.p, c, b, 500)
				if !interp.Ended(x) || !interp.Ended(y) {
					continue
				}
				k, l := queue.Seen(m.p, level, api.EOutput, x.Events), queue.Seen(m.p, level, api.EOutput, y.Events)
				if x.Status != y.Status || !slices.EqualFunc(k, l, func(u, v api.Event) bool { return u.Ref == v.Ref && u.Value == v.Value }) {
					t.Fatalf("P1: with %v, %v the level %d sees of %q %d, %v and %d, %v", a, b, level, text, x.Status, k, y.Status, l)
				}
				ended++
				seen += len(k)
			}
		}
	}
	if ended < 1000 || seen < 1000 {
		t.Errorf("the test's own runs ended %d times, with %d outputs", ended, seen)
	}
}

// inputs makes enough numbers for most runs.
func (m *maker) inputs() [][]int64 {
	l := make([][]int64, len(m.p.Ins))
	for i := range l {
		for range 40 {
			l[i] = append(l[i], int64(m.Intn(5)-1))
		}
	}
	return l
}
