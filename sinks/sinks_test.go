package sinks_test

import (
	"math"
	"reflect"
	"slices"
	"strings"
	"testing"

	"interdict/api"
	"interdict/lattice"
	"interdict/names"
	"interdict/policy"
	"interdict/sinks"
	"interdict/tree"
)

// two has a level above another one; four has two beside one another between them, none with the number that its height would be.
const (
	two  = "level low\nlevel high\nflow low high\ninput key high\ninput net low\noutput net low\noutput vault high\ndepth 8"
	four = "level left\nlevel top\nlevel bot\nlevel right\nflow bot left\nflow bot right\nflow left top\nflow right top\n" +
		"input it top\ninput il left\ninput ib bot\ninput ir right\noutput ot top\noutput ol left\noutput ob bot\noutput outr right\ndepth 3"
)

// setting is the policy of a text.
func setting(t *testing.T, s string) api.Policy {
	t.Helper()
	p, _, e := policy.Parse(s)
	if e != api.OK {
		t.Fatalf("the test's own policy %q is refused: %d", s, e)
	}
	return p
}

// code is that of a program's text.
func code(t *testing.T, p api.Policy, s string) api.Code {
	t.Helper()
	q, at, e := tree.Parse(s)
	if e != api.OK {
		t.Fatalf("the test's own program %q is refused: %d at %d", s, e, at)
	}
	c, at, e := names.Resolve(p, q)
	if e != api.OK {
		t.Fatalf("the test's own program %q has a wrong name: %d at %d", s, e, at)
	}
	return c
}

// level is the number of a level's name.
func level(t *testing.T, p api.Policy, name string) int {
	t.Helper()
	l, is := policy.Level(p, name)
	if !is {
		t.Fatalf("the test's own level %q is none", name)
	}
	return l
}

// row are the numbers of some levels' names, one blank between each two.
func row(t *testing.T, p api.Policy, s string) []int {
	t.Helper()
	var l []int
	for _, name := range strings.Fields(s) {
		l = append(l, level(t, p, name))
	}
	return l
}

// least is the level below all.
func least(p api.Policy) int {
	l, _ := lattice.Bottom(p.Up)
	return l
}

// everywhere is a typing that gives all the same level.
func everywhere(c api.Code, level int) []sinks.Typing {
	var l []sinks.Typing
	for _, b := range c.Funcs {
		l = append(l, sinks.Typing{Values: slices.Repeat([]int{level}, b.Vars), Blocks: slices.Repeat([]int{level}, len(b.Blocks)), Result: level, Place: level})
	}
	return l
}

// refused holds what is said of code with a fault, and of such as may not be.
func refused(t *testing.T, p api.Policy, c api.Code) {
	t.Helper()
	if l, e := sinks.Flows(p, c); len(l) != 0 || e != api.ErrArg {
		t.Fatalf("P21.1: Flows(%v, %v) = %v, %d, want ErrArg", p, c, l, e)
	}
	if sinks.Accepts(p, c) {
		t.Fatalf("P21.1: Accepts(%v, %v)", p, c)
	}
	for fn := range max(1, len(c.Funcs)) {
		for n := range 3 {
			if is, e := sinks.Judge(p, c, fn, make([]int, n), 0); is || e != api.ErrArg {
				t.Fatalf("P21.2: Judge(%v, %v, %d, ..) = %v, %d, want ErrArg", p, c, fn, is, e)
			}
		}
	}
	small := c
	small.Funcs = slices.Clone(c.Funcs)
	for fn := range small.Funcs {
		small.Funcs[fn].Vars = min(100, small.Funcs[fn].Vars)
	}
	for _, typing := range [][]sinks.Typing{nil, everywhere(small, 0)} {
		if is, e := sinks.Holds(p, c, typing); is || e != api.ErrArg {
			t.Fatalf("P21.2: Holds(%v, %v, %v) = %v, %d, want ErrArg", p, c, typing, is, e)
		}
	}
}

// flow is one as a test writes it: its kind, the number of its function, the instruction, which is the first one in the text that is written so, which argument, and its levels.
type flow struct {
	kind        uint8
	fn          int
	at          string
	arg         int
	from, bound string
}

func TestFlows(t *testing.T) {
	p := setting(t, four)
	for _, c := range []struct {
		text string
		want []flow
	}{
		{"fn main() { a: x = const 7 return x }", nil},
		// Above the bound, beside it, at it, below it.
		{"fn main() { a: x = input il output ob x output outr x output ol x output ot x return x }",
			[]flow{{api.SOutput, 0, "output ob x", 0, "left", "bot"}, {api.SOutput, 0, "output outr x", 0, "left", "right"}}},
		{"fn main() { a: x = input it output ol x y = input ib output ob y output ot x return x }", []flow{{api.SOutput, 0, "output ol x", 0, "top", "left"}}},
		// Of a join of levels.
		{"fn main() { a: x = input il y = input ir z = add x y output ot z output ol z return x }", []flow{{api.SOutput, 0, "output ol z", 0, "top", "left"}}},
		// Where a fork parts; behind it nothing is learned any more.
		{"fn main() { a: x = input il branch x b c b: y = input ir z = const 1 output ot z output ob z w = release z right jump c c: v = input ib output ob v return v }",
			[]flow{{api.SInput, 0, "y = input ir", 0, "left", "right"}, {api.SOutput, 0, "output ob z", 0, "left", "bot"}, {api.SRelease, 0, "w = release", 0, "left", "right"}}},
		{"array t 4 right fn main() { a: x = input it i = const 2 store t i x store t x i y = input ir store t i y z = load t y w = div y y v = mod y i return z }", []flow{
			{api.SStore, 0, "store t i x", 0, "top", "right"}, {api.SStore, 0, "store t x i", 0, "top", "right"}, {api.STrap, 0, "store t x i", 0, "top", "bot"},
			{api.STrap, 0, "z = load t y", 0, "right", "bot"}, {api.STrap, 0, "w = div y y", 0, "right", "bot"}}},
		// Arguments one by one, each by its own label, then the place.
		{"fn main() { a: x = input il y = input ir c = const 0 branch x b d b: z = call f(c, x, y, x) jump d d: return x } fn f(k, l, m, n) { a: output ol l output ol m output outr k output outr n return k }",
			[]flow{{api.SArg, 0, "z = call", 2, "right", "left"}, {api.SArg, 0, "z = call", 3, "left", "right"}, {api.SCall, 0, "z = call", 0, "left", "bot"}}},
		// A call that may be one too many.
		{"fn main() { a: x = input il branch x b c b: y = call main() jump c c: return x }",
			[]flow{{api.SCall, 0, "y = call", 0, "left", "bot"}, {api.SDepth, 0, "y = call", 0, "left", "bot"}}},
		{"fn main() { a: x = call f() return x } fn f() { a: x = call g() return x } fn g() { a: x = input ir branch x b c b: y = call h() jump c c: return x } fn h() { a: x = const 1 return x }",
			[]flow{{api.SDepth, 2, "y = call h", 0, "right", "bot"}}},
		{"fn main() { a: x = call g() return x } fn g() { a: x = input ir branch x b c b: y = call h() jump c c: return x } fn h() { a: x = const 1 return x }", nil},
		// What was released is at the level to which it was.
		{"fn main() { a: x = input it y = release x left output ol y output ob y return y }", []flow{{api.SOutput, 0, "output ob y", 0, "left", "bot"}}},
		// Functions that do not count: what they do is no flow, nor how they call others, one another, or main.
		{"fn f() { a: x = input it output ob x y = call g(x) z = call main() return x } fn g(n) { a: output ob n x = call f() return n } fn main() { a: x = const 1 return x }", nil},
		// Those that count by way of others, whatever they are called with.
		{"fn h(n) { a: x = input il output outr x return n } fn g(n) { a: x = call h(n) return x } fn f() { a: x = input it output ob x return x } fn main() { a: x = const 1 y = call g(x) return x }",
			[]flow{{api.SOutput, 0, "output outr x", 0, "left", "right"}}},
		// By function, block, instruction; functions that count on both sides of one that does not.
		{"fn f(n) { a: output ol n jump b b: x = input ir output ol x return x } fn g() { a: x = input ir output ol x return x } fn main() { c: k = input ir y = call f(k) output ob k return y }",
			[]flow{{api.SOutput, 0, "output ol x", 0, "right", "left"}, {api.SArg, 2, "y = call", 0, "right", "left"}, {api.SOutput, 2, "output ob k", 0, "right", "bot"}}},
		// A bit of a mask alone is no flow: the call's own labels tell.
		{"fn f(n) { a: output ob n return n } fn main() { a: x = input ib y = call f(x) output ob y return y }", nil},
	} {
		d := code(t, p, c.text)
		var want []api.Flow
		for _, f := range c.want {
			want = append(want, api.Flow{Kind: f.kind, Fn: f.fn, At: strings.Index(c.text, f.at), Arg: f.arg, From: level(t, p, f.from), Bound: level(t, p, f.bound)})
		}
		if got, e := sinks.Flows(p, d); e != api.OK || !slices.Equal(got, want) {
			t.Errorf("P21.1: Flows of %q = %v, %d, want %v", c.text, got, e, want)
		}
		if got := sinks.Accepts(p, d); got != (len(want) == 0) {
			t.Errorf("P21.1: Accepts of %q is %v", c.text, got)
		}
	}
}

// TestExamples are the chapter's, and the document's.
func TestExamples(t *testing.T) {
	p := setting(t, two)
	for _, c := range []struct {
		text string
		want []api.Flow
	}{
		{"fn main() { a: k = input key output vault k return k }", nil},
		{"fn main() { a: k = input key output net k return k }", []api.Flow{{Kind: api.SOutput, At: 29, From: 1}}},
		{"fn main() { a: k = input key x = release k low output net x return x }", nil},
		{"fn main() { a: k = input key branch k b c b: n = input net jump c c: return k }", []api.Flow{{Kind: api.SInput, At: 45, From: 1}}},
		{"fn main() { a: k = input key branch k b c b: output vault k jump c c: return k }", nil},
		{"fn main() { a: k = input key o = const 1 x = div o k output vault x return x }", []api.Flow{{Kind: api.STrap, At: 41, From: 1}}},
		{"array t 2 low fn main() { a: k = input key i = wrap t k v = load t i output vault v return k }", nil},
		{"array t 2 low fn main() { a: k = input key v = load t k output vault v return k }", []api.Flow{{Kind: api.STrap, At: 43, From: 1}}},
		{"fn f(a) { x: output net a return a } fn main() { x: k = input net y = call f(k) return y }", nil},
		{"fn f(a) { x: output net a return a } fn main() { x: k = input key y = call f(k) return y }", []api.Flow{{Kind: api.SArg, Fn: 1, At: 66, From: 1}}},
		{"fn f() { a: x = call f() return x } fn main() { a: x = call f() return x }", nil},
	} {
		d := code(t, p, c.text)
		if got, e := sinks.Flows(p, d); e != api.OK || !slices.Equal(got, c.want) || sinks.Accepts(p, d) != (len(c.want) == 0) {
			t.Errorf("P21.1: Flows of %q = %v, %d, want %v", c.text, got, e, c.want)
		}
	}
	c := code(t, p, "fn f(a) { x: output net a return a } fn main() { x: k = input key y = call f(k) return y }")
	for args, want := range []bool{true, false} {
		if got, e := sinks.Judge(p, c, 0, []int{args}, 0); got != want || e != api.OK {
			t.Errorf("P21.2: Judge of f with %d: %v, %d", args, got, e)
		}
	}
}

func TestJudge(t *testing.T) {
	p := setting(t, four)
	const (
		puts  = "fn f(n, m) { a: output ol n output ot m return n } fn main() { a: x = const 1 return x }"
		calls = "fn f(n, m) { a: x = call g(m, n) return x } fn g(n, m) { a: output ol n output outr m return n } fn h() { a: x = input it output ob x y = call f(x, x) return x } fn main() { a: x = const 1 return x }"
		round = "fn f(n) { a: x = call g(n) return x } fn g(n) { a: x = call f(n) y = input il output ob y return x } fn main() { a: x = const 1 return x }"
		wrong = "fn main() { a: x = input il output ob x return x } fn f(n) { a: return n } fn g() { a: x = call main() return x }"
		gives = "fn f() { a: x = input ir y = call g(x) return y } fn g(n) { a: output ol n return n } fn main() { a: x = const 1 return x }"
		forks = "fn f(n) { a: branch n b c b: x = input ir jump c c: return n } fn g() { a: x = input il branch x b c b: y = call h() jump c c: return x } fn h() { a: x = input ir return x } fn main() { a: x = const 1 return x }"
		deep  = "fn main() { a: x = const 1 y = call f(x) return y } fn f(n) { a: branch n b c b: x = call f(n) return x c: return n }"
	)
	for _, c := range []struct {
		text  string
		fn    int
		args  string
		place string
		want  bool
	}{
		{puts, 0, "bot bot", "bot", true},
		{puts, 0, "left top", "left", true},
		{puts, 0, "left top", "bot", true},
		{puts, 0, "right top", "bot", false},
		{puts, 0, "top bot", "bot", false},
		{puts, 0, "left top", "right", false},
		{puts, 0, "left top", "top", false},
		{puts, 1, "", "top", true},
		// By way of another one; the arguments are turned round.
		{calls, 0, "right left", "bot", true},
		{calls, 0, "left right", "bot", false},
		{calls, 0, "right bot", "bot", true},
		{calls, 0, "bot bot", "left", false},
		{calls, 0, "bot bot", "right", false},
		{calls, 1, "left right", "bot", true},
		{calls, 1, "right right", "bot", false},
		// Wrong by itself, whatever it is called with; whoever is reached by it is not wrong by that.
		{calls, 2, "", "bot", false},
		// By what it reaches, in a circle, too.
		{round, 0, "bot", "bot", false},
		{round, 1, "bot", "bot", false},
		{round, 2, "", "bot", true},
		// Main counts as any other one.
		{wrong, 0, "", "bot", false},
		{wrong, 1, "top", "top", true},
		{wrong, 2, "", "bot", false},
		// A call's argument is wrong where it is given, not where it is taken.
		{gives, 0, "", "bot", false},
		{gives, 1, "left", "bot", true},
		{gives, 1, "right", "bot", false},
		{gives, 2, "", "top", true},
		// By the place alone.
		{forks, 0, "right", "right", true},
		{forks, 0, "left", "right", false},
		{forks, 0, "bot", "left", false},
		{forks, 1, "", "bot", false},
		{forks, 2, "", "right", true},
		{forks, 2, "", "left", false},
		// By calls that may be too many.
		{deep, 1, "bot", "bot", true},
		{deep, 1, "left", "bot", false},
		{deep, 1, "bot", "left", false},
		{deep, 0, "", "bot", true},
		{deep, 0, "", "right", false},
	} {
		d := code(t, p, c.text)
		if got, e := sinks.Judge(p, d, c.fn, row(t, p, c.args), level(t, p, c.place)); got != c.want || e != api.OK {
			t.Errorf("P21.2: Judge of %q, %d, (%s), %s = %v, %d, want %v", c.text, c.fn, c.args, c.place, got, e, c.want)
		}
	}
}

// TestJudgeWrong: no function, other arguments, no levels.
func TestJudgeWrong(t *testing.T) {
	p := setting(t, two)
	c := code(t, p, "fn f(n, m) { a: return n } fn main() { a: x = const 1 return x } fn g() { a: x = input key output net x return x }")
	ask := func(fn int, args []int, place int, want bool, e api.Errno) {
		t.Helper()
		if got, f := sinks.Judge(p, c, fn, args, place); got != want || f != e {
			t.Errorf("P21.2: Judge of %d, %v, %d = %v, %d, want %v, %d", fn, args, place, got, f, want, e)
		}
	}
	ask(0, []int{1, 1}, 1, true, api.OK)
	ask(1, []int{}, 1, true, api.OK)
	ask(2, nil, 0, false, api.OK)
	for _, fn := range []int{-1, 3, 64, math.MaxInt, math.MinInt} {
		ask(fn, nil, 0, false, api.ErrArg)
		ask(fn, []int{0, 0}, 0, false, api.ErrArg)
	}
	for _, args := range [][]int{nil, {0}, {0, 0, 0}, make([]int, 7), make([]int, 1000)} {
		ask(0, args, 0, false, api.ErrArg)
	}
	ask(1, []int{0}, 0, false, api.ErrArg)
	for _, wrong := range []int{-1, 2, 63, 64, 65, math.MaxInt, math.MinInt} {
		ask(0, []int{wrong, 0}, 0, false, api.ErrArg)
		ask(0, []int{0, wrong}, 0, false, api.ErrArg)
		ask(0, []int{0, 0}, wrong, false, api.ErrArg)
		ask(1, nil, wrong, false, api.ErrArg)
		// Though it is not right by itself.
		ask(2, nil, wrong, false, api.ErrArg)
	}
}

func TestFaults(t *testing.T) {
	p := setting(t, two)
	for _, s := range []string{
		"fn main() { a: x = const 0 return x b: return x }",
		"fn main() { a: x = const 0 branch x a b b: return x }",
		"fn main() { a: x = const 0 jump b b: z = phi [b: x] return z }",
		"fn main() { a: y = add x x x = const 1 return y }",
		"fn main() { a: x = const 0 return x } fn f() { a: jump a }",
	} {
		refused(t, p, code(t, p, s))
	}
	text := "array t 4 low fn main() { a: x = const 3 y = call f(x) z = load t x output net x w = input key v = release w low return y } fn f(n) { a: return n }"
	for _, change := range []func(c *api.Code){
		func(c *api.Code) { *c = api.Code{} },
		func(c *api.Code) { c.Arrays[0].Level = 2 },
		func(c *api.Code) { c.Funcs = nil },
		func(c *api.Code) { c.Main = 1 },
		func(c *api.Code) { c.Main = math.MinInt },
		func(c *api.Code) { c.Funcs[0].Vars = math.MaxInt },
		func(c *api.Code) { c.Funcs[0].Blocks[0][1].Ref = 2 },
		func(c *api.Code) { c.Funcs[0].Blocks[0][1].Args = nil },
		func(c *api.Code) { c.Funcs[0].Blocks[0][2].Ref = 1 },
		func(c *api.Code) { c.Funcs[0].Blocks[0][3].Ref = -1 },
		func(c *api.Code) { c.Funcs[0].Blocks[0][5].Ref = math.MaxInt },
		func(c *api.Code) { c.Funcs[0].Blocks[0] = nil },
	} {
		c := code(t, p, text)
		if l, e := sinks.Flows(p, c); len(l) != 0 || e != api.OK || !sinks.Accepts(p, c) {
			t.Fatalf("P21.1: Flows of %q = %v, %d", text, l, e)
		}
		change(&c)
		refused(t, p, c)
	}
	right := code(t, p, text)
	refused(t, api.Policy{}, right)
	refused(t, api.Policy{}, api.Code{})
	wrong := p
	wrong.Depth = 0
	refused(t, wrong, right)
	wrong = p
	wrong.Up = []uint64{3, 3}
	refused(t, wrong, right)
}

// TestSame: what is handed in is not changed, what is handed out is not shared, and what is told is the same again.
func TestSame(t *testing.T) {
	p := setting(t, two)
	const text = "fn f(a) { x: output net a return a } fn main() { x: k = input key y = call f(k) output net y return y }"
	c := code(t, p, text)
	args, typing := []int{1, 9}[:1], everywhere(c, 1)
	first, _ := sinks.Flows(p, c)
	want := slices.Clone(first)
	sinks.Judge(p, c, 0, args, 0)
	sinks.Holds(p, c, typing)
	all := first[:cap(first)]
	for i := range all {
		all[i] = api.Flow{Kind: 99}
	}
	if again, _ := sinks.Flows(p, c); len(want) != 2 || !slices.Equal(again, want) {
		t.Errorf("R4, R5: Flows are %v, then %v", want, again)
	}
	if !reflect.DeepEqual(c, code(t, p, text)) || !reflect.DeepEqual(p, setting(t, two)) || !slices.Equal(args[:2], []int{1, 9}) || !reflect.DeepEqual(typing, everywhere(c, 1)) {
		t.Errorf("R4: what was handed in is changed: %v, %v, %v, %v", p, c, args, typing)
	}
	// Whatever the Ats are, they are told as they are.
	c.Funcs[1].Blocks[0][1].At, c.Funcs[1].Blocks[0][2].At = math.MaxInt, math.MinInt
	if l, _ := sinks.Flows(p, c); len(l) != 2 || l[0].At != math.MaxInt || l[1].At != math.MinInt {
		t.Errorf("P21.1: Flows with other Ats: %v", l)
	}
}

// TestOneLevel: where there is but one level there are no flows.
func TestOneLevel(t *testing.T) {
	p := setting(t, "level all\ndepth 1")
	c := code(t, p, "array t 4 all fn main() { a: x = const 7 y = call f(x) z = div x y store t y z return y } fn f(n) { a: x = release n all return x }")
	yes, e := sinks.Judge(p, c, 1, []int{0}, 0)
	is, f := sinks.Holds(p, c, everywhere(c, 0))
	if !sinks.Accepts(p, c) || !yes || e != api.OK || !is || f != api.OK {
		t.Errorf("P21.1, P21.2: of one level: %v, %d, %v, %d", yes, e, is, f)
	}
}

// great is a policy of 64 levels in a chain, and depth 64.
func great(t *testing.T) api.Policy {
	t.Helper()
	var pairs [][2]int
	for i := range 63 {
		pairs = append(pairs, [2]int{i, i + 1})
	}
	up, e := lattice.Build(64, pairs)
	if e != api.OK {
		t.Fatalf("the test's own order is refused: %d", e)
	}
	p := api.Policy{Up: up, Depth: 64}
	for i := range 64 {
		p.Levels = append(p.Levels, "l"+string(rune('A'+i/16))+string(rune('a'+i%16)))
	}
	p.Ins = []api.Channel{{Name: "i", Level: 31}}
	p.Outs = []api.Channel{{Name: "o", Level: 30}}
	return p
}

// chain is 64 functions, each of which calls the next one, many times, by turns with all that it is given, and with what came in; the last one puts all out.
func chain() api.Code {
	c := api.Code{}
	for fn := range 64 {
		b := api.Body{Params: 6, Vars: 7, Blocks: [][]api.Op{{{Kind: api.KInput, Dst: 6}}}}
		if fn == 0 {
			b.Params, b.Vars, b.Blocks[0][0].Dst = 0, 1, 0
		}
		last := b.Vars - 1
		for k := range 60 {
			x := api.Op{Kind: api.KCall, Ref: fn + 1, Dst: b.Vars, Args: []int{0, 1, 2, 3, 4, 5}}
			if k%2 == 1 || fn == 0 {
				x.Args = slices.Repeat([]int{last}, 6)
			}
			if fn == 63 {
				x = api.Op{Kind: api.KOutput, Dst: -1, Args: []int{k % b.Vars}}
			} else {
				b.Vars++
			}
			b.Blocks[0] = append(b.Blocks[0], x)
		}
		b.Blocks[0] = append(b.Blocks[0], api.Op{Kind: api.KReturn, Dst: -1, Args: []int{last}})
		c.Funcs = append(c.Funcs, b)
	}
	return c
}

// TestGreat: the greatest programs are told as they should be, and soon.
func TestGreat(t *testing.T) {
	p, c := great(t), chain()
	l, e := sinks.Flows(p, c)
	// In main each call is wrong, elsewhere each second one; the last function puts each seventh time out what came in.
	if n := 60*6 + 62*30*6 + 8; e != api.OK || len(l) != n {
		t.Errorf("P21.1: %d flows, %d, want %d", len(l), e, n)
	}
	for _, f := range l {
		if f.From != 31 || f.Bound != 30 {
			t.Fatalf("P21.1: %v", f)
		}
	}
	holds := func(level int, want bool) {
		t.Helper()
		if is, e := sinks.Holds(p, c, everywhere(c, level)); is != want || e != api.OK {
			t.Errorf("P21.2: Holds at %d: %v, %d", level, is, e)
		}
	}
	for level := range 64 {
		holds(level, false)
	}
	// At 30 a value would be below the input; at 32 a block above it.
	p.Outs[0].Level = 63
	holds(30, false)
	holds(31, true)
	holds(32, false)
	if !sinks.Accepts(p, c) {
		t.Errorf("P21.3: Accepts is false")
	}
	// One call less may be within one another: and so the last one may be one too many.
	p.Depth = 63
	holds(31, false)
	if l, e := sinks.Flows(p, c); len(l) != 0 || e != api.OK {
		t.Errorf("P21.1: where the last call may be one too many: %d flows, %d", len(l), e)
	}
}
