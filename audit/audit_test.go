package audit_test

import (
	"math"
	"reflect"
	"slices"
	"strconv"
	"strings"
	"testing"

	"interdict/api"
	"interdict/audit"
	"interdict/lattice"
	"interdict/names"
	"interdict/policy"
	"interdict/ssa"
	"interdict/tree"
)

// two has a level above another one; four has two beside one another between them, none with the number that its height would be.
const (
	two  = "level low\nlevel high\nflow low high\ninput key high\ninput net low\noutput net low\noutput vault high\ndepth 8"
	four = "level left\nlevel top\nlevel bot\nlevel right\nflow bot left\nflow bot right\nflow left top\nflow right top\n" +
		"input it top\ninput il left\ninput ib bot\ninput ir right\noutput ot top\noutput ol left\noutput ob bot\noutput outr right\ndepth 3"
)

// setting is the policy of a text.
func setting(t *testing.T, s string) api.Policy {
	t.Helper()
	p, _, e := policy.Parse(s)
	if e != api.OK {
		t.Fatalf("the test's own policy %q is refused: %d", s, e)
	}
	return p
}

// code is that of a program's text.
func code(t *testing.T, p api.Policy, s string) api.Code {
	t.Helper()
	q, at, e := tree.Parse(s)
	if e != api.OK {
		t.Fatalf("the test's own program %q is refused: %d at %d", s, e, at)
	}
	c, at, e := names.Resolve(p, q)
	if e != api.OK {
		t.Fatalf("the test's own program %q has a wrong name: %d at %d", s, e, at)
	}
	return c
}

// shown is a context's text: the names of its levels, that of its place behind a /; of one that does not count a -.
func shown(p api.Policy, x audit.Context) string {
	if reflect.DeepEqual(x, audit.Context{}) {
		return "-"
	}
	s := ""
	for _, level := range x.Args {
		s += p.Levels[level] + " "
	}
	if s += "/ " + p.Levels[x.Place]; !x.Counts {
		s += ", but does not count"
	}
	return s
}

// refused holds what is said of code with a fault, and of such as may not be.
func refused(t *testing.T, p api.Policy, c api.Code) {
	t.Helper()
	if l, e := audit.Contexts(p, c); len(l) != 0 || e != api.ErrArg {
		t.Fatalf("P22.1: Contexts(%v, %v) = %v, %d, want ErrArg", p, c, l, e)
	}
	if l, e := audit.Releases(p, c); len(l) != 0 || e != api.ErrArg {
		t.Fatalf("P22.2: Releases(%v, %v) = %v, %d, want ErrArg", p, c, l, e)
	}
}

func TestContexts(t *testing.T) {
	p := setting(t, four)
	for _, c := range []struct {
		text string
		want []string // of each function
	}{
		{"fn main() { a: x = const 7 return x }", []string{"/ bot"}},
		// What each parameter is given; of several calls the join.
		{"fn main() { a: x = input il y = input ir c = const 1 z = call f(x, y, c) return z } fn f(k, l, m) { a: return k }", []string{"/ bot", "left right bot / bot"}},
		{"fn main() { a: x = input il y = input ir c = const 1 z = call f(x, y, c) w = call f(y, y, c) v = call f(c, c, c) return z } fn f(k, l, m) { a: return k }", []string{"/ bot", "top right bot / bot"}},
		{"fn main() { a: x = input it c = const 1 z = call f(c) return z } fn f(k) { a: return k }", []string{"/ bot", "bot / bot"}},
		// What comes back hangs on what was given there, not on what others give.
		{"fn main() { a: x = input il y = input ir z = call f(x) w = call f(y) v = call g(z) u = call h(w) return z } fn f(k) { a: return k } fn g(k) { a: return k } fn h(k) { a: return k }",
			[]string{"/ bot", "top / bot", "left / bot", "right / bot"}},
		// Where the call is; an argument is at its own level, whatever the place.
		{"fn main() { a: x = input il c = const 1 branch x b d b: z = call f(c) jump d d: w = call g(c) return x } fn f(k) { a: return k } fn g(k) { a: return k }", []string{"/ bot", "bot / left", "bot / bot"}},
		{"fn main() { a: x = input il y = input ir branch x b d b: c = const 1 z = call f(c) jump d d: branch y e g e: w = call f(x) jump g g: return x } fn f(k) { a: return k }", []string{"/ bot", "left / top"}},
		// By way of others: what a function makes of what it is given, and of its place.
		{"fn main() { a: x = input il y = input ir z = call f(x, y) return z } fn f(k, l) { a: m = add k l c = const 1 branch k b d b: x = call g(l, m, c) jump d d: return k } fn g(k, l, m) { a: return k }",
			[]string{"/ bot", "left right / bot", "right top bot / left"}},
		{"fn main() { a: x = input il branch x b d b: y = call f() jump d d: return x } fn f() { a: c = const 1 y = input ir x = call g(c, y) return c } fn g(k, l) { a: return k }",
			[]string{"/ bot", "/ left", "left top / left"}},
		// What was released, loaded and chosen.
		{"array t 2 right fn main() { a: x = input it y = release x left i = wrap t y v = load t i w = call f(x, y, i, v) return y } fn f(k, l, m, n) { a: return k }", []string{"/ bot", "top left left top / bot"}},
		{"fn main() { a: x = input il c = const 1 branch x b d b: jump d d: z = phi [a: c, b: c] y = call f(z) return c } fn f(k) { a: return k }", []string{"/ bot", "left / bot"}},
		// Functions that stand ahead of those that call them, and call themselves or one another.
		{"fn h(k) { a: return k } fn g(k) { a: x = call h(k) return k } fn f(k) { a: x = call g(k) return k } fn main() { a: x = input ir y = call f(x) return x }", []string{"right / bot", "right / bot", "right / bot", "/ bot"}},
		{"fn f(k, l, m) { a: branch m b d b: x = call f(l, m, m) jump d d: return k } fn main() { a: c = const 1 x = input ir y = call f(c, c, x) return c }", []string{"right right right / right", "/ bot"}},
		{"fn f(k, l) { a: x = call g(l, k) return k } fn g(k, l) { a: y = input il x = call f(k, y) return k } fn main() { a: c = const 1 x = input ir y = call f(x, c) return c }",
			[]string{"top left / bot", "left top / bot", "/ bot"}},
		// Main may be called, too.
		{"fn main() { a: x = input il branch x b d b: y = call f() jump d d: return x } fn f() { a: x = call main() return x }", []string{"/ left", "/ left"}},
		{"fn main() { a: x = input ir y = input il branch x b d b: z = call main() jump d d: w = call f(y) return x } fn f(k) { a: return k }", []string{"/ right", "top / right"}},
		// What does not count is told nothing of, nor asks for anything.
		{"fn f(k, l) { a: x = input it branch x b d b: y = call g(x) z = call main() jump d d: return k } fn g(k) { a: return k } fn main() { a: x = const 1 y = call g(x) return x } fn h() { a: x = const 1 return x }",
			[]string{"-", "bot / bot", "/ bot", "-"}},
		// A function that is not asked for more than the bottom, though it counts; one without parameters.
		{"fn main() { a: x = input ib y = call f(x, x) z = call g() return x } fn f(k, l) { a: return k } fn g() { a: x = input it return x }", []string{"/ bot", "bot bot / bot", "/ bot"}},
		// Six parameters.
		{"fn f(a, b, c, d, e, g) { a: x = call h(g, e, d, c, b, a) return a } fn h(a, b, c, d, e, g) { a: return a } fn main() { a: x = input il y = input ir z = input it u = const 1 w = call f(x, y, z, u, x, y) return u }",
			[]string{"left right top bot left right / bot", "right left bot top right left / bot", "/ bot"}},
	} {
		l, e := audit.Contexts(p, code(t, p, c.text))
		var got []string
		for _, x := range l {
			got = append(got, shown(p, x))
		}
		if e != api.OK || !slices.Equal(got, c.want) {
			t.Errorf("P22.1: Contexts of %q = %q, %d, want %q", c.text, got, e, c.want)
		}
	}
}

// release is one as a test writes it: the number of its function, the instruction, which is the first one in the text that is written so, and its levels.
type release struct {
	fn       int
	at       string
	from, to string
}

func TestReleases(t *testing.T) {
	p := setting(t, four)
	for _, c := range []struct {
		text string
		want []release
	}{
		{"fn main() { a: x = input it return x }", nil},
		// To a lower level, to the same one, to one beside it, to a higher one.
		{"fn main() { a: x = input il y = release x bot z = release x left w = release x right v = release x top return x }",
			[]release{{0, "y =", "left", "bot"}, {0, "z =", "left", "left"}, {0, "w =", "left", "right"}, {0, "v =", "left", "top"}}},
		// Of what was released again.
		{"fn main() { a: x = input it y = release x left z = release y bot w = release z right return x }", []release{{0, "y =", "top", "left"}, {0, "z =", "left", "bot"}, {0, "w =", "bot", "right"}}},
		// The value counts, not the block, but for values that are of it.
		{"fn main() { a: x = input il c = const 1 branch x b d b: y = release c left v = const 2 z = release v left jump d d: return x }", []release{{0, "y =", "bot", "left"}, {0, "z =", "left", "left"}}},
		// In how the function is called.
		{"fn f(k, l) { a: y = release k bot z = release l bot m = add k l w = release m bot c = const 1 v = release c bot return c } fn main() { a: x = input il y2 = input ir z2 = call f(x, y2) return x }",
			[]release{{0, "y =", "left", "bot"}, {0, "z =", "right", "bot"}, {0, "w =", "top", "bot"}, {0, "v =", "bot", "bot"}}},
		{"fn f() { a: c = const 1 y = release c left return c } fn main() { a: x = input ir branch x b d b: z = call f() jump d d: return x }", []release{{0, "y =", "right", "left"}}},
		{"fn f(k) { a: y = release k bot return k } fn main() { a: x = input il z = const 1 u = input ir w = call f(z) v = call f(x) return x }", []release{{0, "y =", "left", "bot"}}},
		// What was released in a call is at the level to which it was.
		{"fn f(k) { a: y = release k right return y } fn main() { a: x = input it z = call f(x) w = release z bot return x }", []release{{0, "y =", "top", "right"}, {1, "w =", "right", "bot"}}},
		// Of functions that do not count nothing is told, nor do they count where they call.
		{"fn f() { a: x = input it y = release x bot z = call g(x) return x } fn g(k) { a: w = release k right return k } fn main() { a: c = const 1 v = call g(c) return c }", []release{{1, "w =", "bot", "right"}}},
		// By function, block, instruction, wherever main is; one that may not be come to as well.
		{"fn f(k) { a: jump d b: y = release k bot return k d: z = release k right branch z b b } fn main() { a: x = input il c = const 0 u = release x right branch c e g e: w = call f(x) jump g g: v = release c left return x } fn h(k) { a: return k }",
			[]release{{0, "y =", "left", "bot"}, {0, "z =", "left", "right"}, {1, "u =", "left", "right"}, {1, "v =", "bot", "left"}}},
	} {
		var want []api.Release
		for _, r := range c.want {
			from, _ := policy.Level(p, r.from)
			to, _ := policy.Level(p, r.to)
			want = append(want, api.Release{Fn: r.fn, At: strings.Index(c.text, r.at), From: from, To: to})
		}
		if got, e := audit.Releases(p, code(t, p, c.text)); e != api.OK || !slices.Equal(got, want) {
			t.Errorf("P22.2: Releases of %q = %v, %d, want %v", c.text, got, e, want)
		}
	}
}

// TestExamples are the chapter's, and the document's.
func TestExamples(t *testing.T) {
	p := setting(t, two)
	l, e := audit.Releases(p, code(t, p, "fn main() { a: k = input key x = release k low output net x return x }"))
	if want := (api.Release{At: 29, From: 1}); e != api.OK || len(l) != 1 || l[0] != want {
		t.Errorf("P22.2: %v, %d, want %v", l, e, want)
	}
	c, e := audit.Contexts(p, code(t, p, "fn main() { a: k = input key n = input net x = call f(n) y = call f(k) z = call f(n) return x } fn f(a) { b: return a }"))
	if want := []audit.Context{{Counts: true}, {Counts: true, Args: []int{1}}}; e != api.OK || len(c) != 2 || len(c[0].Args) != 0 || !c[0].Counts || c[0].Place != 0 || !reflect.DeepEqual(c[1], want[1]) {
		t.Errorf("P22.1: %v, %d, want %v", c, e, want)
	}
}

func TestFaults(t *testing.T) {
	p := setting(t, two)
	for _, s := range []string{
		"fn main() { a: x = const 0 return x b: return x }",
		"fn main() { a: x = const 0 branch x a b b: return x }",
		"fn main() { a: x = const 0 jump b b: z = phi [b: x] return z }",
		"fn main() { a: y = release x low x = const 1 return y }",
		"fn main() { a: x = const 0 y = release x low return x } fn f() { a: jump a }",
	} {
		refused(t, p, code(t, p, s))
	}
	text := "array t 4 low fn main() { a: x = const 3 y = call f(x) z = load t x w = input key v = release w low return y } fn f(n) { a: return n }"
	for _, change := range []func(c *api.Code){
		func(c *api.Code) { *c = api.Code{} },
		func(c *api.Code) { c.Arrays = nil },
		func(c *api.Code) { c.Funcs = nil },
		func(c *api.Code) { c.Main = 1 },
		func(c *api.Code) { c.Main = math.MinInt },
		func(c *api.Code) { c.Funcs[1].Params = 7 },
		func(c *api.Code) { c.Funcs[0].Vars = math.MaxInt },
		func(c *api.Code) { c.Funcs[0].Blocks[0][1].Ref = 2 },
		func(c *api.Code) { c.Funcs[0].Blocks[0][1].Args = nil },
		func(c *api.Code) { c.Funcs[0].Blocks[0][4].Ref = 2 },
		func(c *api.Code) { c.Funcs[0].Blocks[0][4].Ref = -1 },
		func(c *api.Code) { c.Funcs[0].Blocks[0][4].Args[0] = 9 },
		func(c *api.Code) { c.Funcs[0].Blocks[0] = nil },
	} {
		c := code(t, p, text)
		if l, e := audit.Releases(p, c); len(l) != 1 || e != api.OK {
			t.Fatalf("P22.2: Releases of %q = %v, %d", text, l, e)
		}
		change(&c)
		refused(t, p, c)
	}
	right := code(t, p, text)
	refused(t, api.Policy{}, right)
	refused(t, api.Policy{}, api.Code{})
	for _, depth := range []int{-1, 0, 65} {
		wrong := p
		wrong.Depth = depth
		refused(t, wrong, right)
	}
	wrong := p
	wrong.Up = []uint64{3, 3}
	refused(t, wrong, right)
}

// TestSame: what is handed in is not changed, what is handed out is not shared, and what is told is the same again.
func TestSame(t *testing.T) {
	p := setting(t, four)
	const text = "fn f(k, l) { a: x = release k bot y = call g(l, x) return x } fn g(k, l) { a: x = release l bot return x } fn main() { a: x = input il y = call f(x, x) return x }"
	c := code(t, p, text)
	contexts, _ := audit.Contexts(p, c)
	releases, _ := audit.Releases(p, c)
	want := slices.Clone(releases)
	for i, x := range contexts {
		all := x.Args[:cap(x.Args)]
		for k := range all {
			if all[k] == 99 {
				t.Fatalf("R4: two lists of one answer share what they stand in")
			}
			all[k] = 99
		}
		contexts[i].Place = 99
	}
	for i := range releases[:cap(releases)] {
		releases[:cap(releases)][i] = api.Release{Fn: 99}
	}
	var got []string
	again, _ := audit.Contexts(p, c)
	for _, x := range again {
		got = append(got, shown(p, x))
	}
	if !slices.Equal(got, []string{"left left / bot", "left bot / bot", "/ bot"}) {
		t.Errorf("R4, R5: Contexts are then %q", got)
	}
	if l, _ := audit.Releases(p, c); len(want) != 2 || !slices.Equal(l, want) {
		t.Errorf("R4, R5: Releases are %v, then %v", want, l)
	}
	if !reflect.DeepEqual(c, code(t, p, text)) || !reflect.DeepEqual(p, setting(t, four)) {
		t.Errorf("R4: what was handed in is changed: %v, %v", p, c)
	}
	// Whatever the Ats are, they are told as they are.
	c.Funcs[0].Blocks[0][0].At, c.Funcs[1].Blocks[0][0].At = math.MaxInt, math.MinInt
	if l, _ := audit.Releases(p, c); len(l) != 2 || l[0].At != math.MaxInt || l[1].At != math.MinInt {
		t.Errorf("P22.2: Releases with other Ats: %v", l)
	}
}

// TestOneLevel: there may be but one level, and no channels.
func TestOneLevel(t *testing.T) {
	p := setting(t, "level all\ndepth 1")
	c := code(t, p, "fn main() { a: x = const 7 y = call f(x) return y } fn f(n) { a: x = release n all return x }")
	contexts, e := audit.Contexts(p, c)
	releases, f := audit.Releases(p, c)
	if e != api.OK || len(contexts) != 2 || shown(p, contexts[0]) != "/ all" || shown(p, contexts[1]) != "all / all" || f != api.OK || len(releases) != 1 {
		t.Errorf("P22.1, P22.2: of one level: %v, %d, %v, %d", contexts, e, releases, f)
	}
}

// TestGreat: of the greatest programs, in which what comes in goes a long way against the functions' order, all is told, and soon.
func TestGreat(t *testing.T) {
	var pairs [][2]int
	for i := range 63 {
		pairs = append(pairs, [2]int{i, i + 1})
	}
	up, e := lattice.Build(64, pairs)
	if e != api.OK {
		t.Fatalf("the test's own order is refused: %d", e)
	}
	p := api.Policy{Up: up, Depth: 64}
	for i := range 64 {
		p.Levels = append(p.Levels, "l"+strconv.Itoa(i))
		if i >= 32 {
			p.Ins = append(p.Ins, api.Channel{Name: "i" + strconv.Itoa(i), Level: i})
		}
	}
	// Each function calls the one ahead of it with what it is given; the first one calls the last but one with that moved on by a parameter, and with what came in there.
	c := api.Code{Main: 63}
	for fn := range 64 {
		b := api.Body{Params: 6, Vars: 8, Blocks: [][]api.Op{{{Kind: api.KInput, Dst: 6, Ref: 3}, {Kind: api.KRelease, Dst: 7, At: fn, Ref: 5, Args: []int{0}}}}}
		args, next := []int{0, 1, 2, 3, 4, 5}, fn-1
		switch fn {
		case 0:
			args, next = []int{1, 2, 3, 4, 5, 6}, 62
		case 63:
			b.Params, b.Vars, b.Blocks[0][0].Dst, b.Blocks[0][1].Dst = 0, 2, 0, 1
			b.Blocks[0][0].Ref = 1
			args = slices.Repeat([]int{1}, 6)
		}
		for range 61 {
			b.Blocks[0] = append(b.Blocks[0], api.Op{Kind: api.KCall, Ref: next, Dst: b.Vars, Args: args})
			b.Vars++
		}
		b.Blocks[0] = append(b.Blocks[0], api.Op{Kind: api.KReturn, Dst: -1, Args: []int{b.Vars - 1}})
		c.Funcs = append(c.Funcs, b)
	}
	if !ssa.Right(p, c) {
		t.Fatal("the test's own code has a fault")
	}
	contexts, e := audit.Contexts(p, c)
	if e != api.OK || len(contexts) != 64 || !contexts[63].Counts || len(contexts[63].Args) != 0 || contexts[63].Place != 0 {
		t.Fatalf("P22.1: Contexts = %v, %d", contexts, e)
	}
	for fn, x := range contexts[:63] {
		if !x.Counts || !slices.Equal(x.Args, []int{35, 35, 35, 35, 35, 35}) || x.Place != 0 {
			t.Errorf("P22.1: the context of %d: %v", fn, x)
		}
	}
	releases, e := audit.Releases(p, c)
	if e != api.OK || len(releases) != 64 || releases[63] != (api.Release{Fn: 63, At: 63, From: 33, To: 5}) {
		t.Fatalf("P22.2: Releases = %v, %d", releases, e)
	}
	for fn, x := range releases[:63] {
		if x != (api.Release{Fn: fn, At: fn, From: 35, To: 5}) {
			t.Errorf("P22.2: the release of %d: %v", fn, x)
		}
	}
}
