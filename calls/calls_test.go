package calls_test

import (
	"math"
	"math/rand"
	"slices"
	"strconv"
	"strings"
	"testing"

	"interdict/api"
	"interdict/calls"
	"interdict/interp"
	"interdict/names"
	"interdict/policy"
	"interdict/ssa"
	"interdict/tree"
)

const setup = "level low\nlevel high\nflow low high\ninput key high\ninput net low\noutput net low\noutput vault high\ndepth 8"

// setting is the policy of a text.
func setting(t *testing.T, s string) api.Policy {
	t.Helper()
	p, _, e := policy.Parse(s)
	if e != api.OK {
		t.Fatalf("the test's own policy %q is refused: %d", s, e)
	}
	return p
}

// code is that of a program's text.
func code(t *testing.T, p api.Policy, s string) api.Code {
	t.Helper()
	q, at, e := tree.Parse(s)
	if e != api.OK {
		t.Fatalf("the test's own program %q is refused: %d at %d", s, e, at)
	}
	c, at, e := names.Resolve(p, q)
	if e != api.OK {
		t.Fatalf("the test's own program %q has a wrong name: %d at %d", s, e, at)
	}
	return c
}

// fan is code of as many functions as there may be, the last of which is main, and calls all, the last one first.
func fan() api.Code {
	c := api.Code{Main: 63}
	end := api.Op{Kind: api.KReturn, Dst: -1, Args: []int{0}}
	var body []api.Op
	for i := range 64 {
		body = append(body, api.Op{Kind: api.KCall, Dst: i, Ref: 63 - i})
		if i != c.Main {
			c.Funcs = append(c.Funcs, api.Body{Vars: 1, Blocks: [][]api.Op{{{Kind: api.KConst}, end}}})
		}
	}
	c.Funcs = append(c.Funcs, api.Body{Vars: 64, Blocks: [][]api.Op{append(body, end)}})
	return c
}

// called are a function's calls, as the chapter says: each function in turn is looked for.
func called(c api.Code, fn int) []int {
	var l []int
	for i := range c.Funcs {
		for _, block := range c.Funcs[fn].Blocks {
			if slices.ContainsFunc(block, func(x api.Op) bool { return x.Kind == api.KCall && x.Ref == i }) {
				l = append(l, i)
				break
			}
		}
	}
	return l
}

// told holds what is said of code against the chapter, with the policy's depth and others.
func told(t *testing.T, p api.Policy, c api.Code) {
	t.Helper()
	if !ssa.Right(p, c) {
		refused(t, p, c)
		return
	}
	var want [][]int
	for i := range c.Funcs {
		want = append(want, called(c, i))
	}
	to, e := calls.To(p, c)
	if e != api.OK || !equal(to, want) {
		t.Fatalf("P18.1: To(%v) = %v, %d, want %v", c, to, e, want)
	}
	entry := entries(want, c.Main)
	for _, depth := range []int{p.Depth, 1, 2, 3, 4, 5, 63, 64} {
		p.Depth = depth
		var deep []bool
		for _, n := range entry {
			deep = append(deep, n == -1 || n >= depth)
		}
		if got, e := calls.Deep(p, c); e != api.OK || !slices.Equal(got, deep) {
			t.Fatalf("P18.3: Deep(%v) with the depth %d = %v, %d, want %v", c, depth, got, e, deep)
		}
	}
}

// refused holds what is said of code with a fault, and of such as may not be.
func refused(t *testing.T, p api.Policy, c api.Code) {
	t.Helper()
	if to, e := calls.To(p, c); len(to) != 0 || e != api.ErrArg {
		t.Fatalf("P18.1: To(%v, %v) = %v, %d, want ErrArg", p, c, to, e)
	}
	if deep, e := calls.Deep(p, c); len(deep) != 0 || e != api.ErrArg {
		t.Fatalf("P18.3: Deep(%v, %v) = %v, %d, want ErrArg", p, c, deep, e)
	}
}

func TestPrograms(t *testing.T) {
	p := setting(t, setup)
	p.Depth = 3
	for _, c := range []struct {
		text string
		to   [][]int
		deep []bool
	}{
		{"fn main() { a: x = const 7 return x }", [][]int{nil}, []bool{false}},
		// The chapter's: main calls f and g, f calls g.
		{"fn main() { a: x = call f() y = call g() return y } fn f() { a: x = call g() return x } fn g() { a: x = const 1 return x }", [][]int{{1, 2}, {2}, nil}, []bool{false, false, true}},
		{"fn main() { a: x = call f() return x } fn f() { a: x = call f() return x }", [][]int{{1}, {1}}, []bool{false, true}},
		// A function that calls itself is not deep, if main does not call it.
		{"fn main() { a: x = const 7 return x } fn f() { a: x = call f() return x }", [][]int{nil, {1}}, []bool{false, false}},
		{"fn f() { a: x = call g() return x } fn g() { a: x = call h() return x } fn h() { a: x = call i() return x } fn i() { a: x = const 1 return x } fn main() { a: x = const 7 return x }", [][]int{{1}, {2}, {3}, nil, nil}, []bool{false, false, false, false, false}},
		// Main may be called, too.
		{"fn f() { a: x = call main() return x } fn main() { a: x = call f() return x }", [][]int{{1}, {0}}, []bool{true, true}},
		{"fn main() { a: x = call main() return x }", [][]int{{0}}, []bool{true}},
		{"fn f() { a: x = call main() return x } fn main() { a: x = const 7 return x }", [][]int{{1}, nil}, []bool{false, false}},
		// In order of numbers, each once, from all blocks, though no way may go through all.
		{"fn main() { a: x = input net y = call h(x) branch y b c b: z = call f() u = call h(z) jump d c: v = call g() w = call f() jump d d: r = phi [b: u, c: w] return r } fn f() { a: x = const 1 return x } fn g() { a: x = call f() return x } fn h(n) { a: return n }", [][]int{{1, 2, 3}, nil, {1}, nil}, []bool{false, true, false, false}},
		// Other instructions' numbers are no calls.
		{"array t 4 low array u 4 low fn main() { a: x = input net y = release x high i = wrap u x z = load u i store u i z output vault z jump b b: return z } fn f() { a: x = const 1 return x }", [][]int{nil, nil}, []bool{false, false}},
		// A way of just as many functions as may be within one another, and one of less.
		{"fn main() { a: x = call f() return x } fn f() { a: x = call g() return x } fn g() { a: x = call h() return x } fn h() { a: x = const 1 return x }", [][]int{{1}, {2}, {3}, nil}, []bool{false, false, true, true}},
	} {
		d := code(t, p, c.text)
		if got, e := calls.To(p, d); e != api.OK || !equal(got, c.to) {
			t.Errorf("P18.1: To of %q = %v, %d, want %v", c.text, got, e, c.to)
		}
		if got, e := calls.Deep(p, d); e != api.OK || !slices.Equal(got, c.deep) {
			t.Errorf("P18.3: Deep of %q = %v, %d, want %v", c.text, got, e, c.deep)
		}
		told(t, p, d)
	}
}

func TestFaults(t *testing.T) {
	p := setting(t, setup)
	for _, s := range []string{
		"fn main() { a: x = const 0 return x b: return x }",
		"fn main() { a: x = const 0 branch x b c b: jump b c: return x }",
		"fn main() { a: x = const 0 branch x a b b: return x }",
		"fn main() { a: x = const 0 jump b b: z = phi [b: x] return z }",
		"fn main() { a: y = add x x x = const 1 return y }",
		"fn main() { a: x = const 0 return x } fn f() { a: jump a }",
	} {
		refused(t, p, code(t, p, s))
	}
	text := "fn main() { a: x = const 3 y = call f(x) return y } fn f(n) { a: return n }"
	for _, change := range []func(c *api.Code){
		func(c *api.Code) { c.Funcs = nil },
		func(c *api.Code) { c.Main = 1 },
		func(c *api.Code) { c.Main = -1 },
		func(c *api.Code) { c.Funcs[0].Vars = math.MaxInt },
		func(c *api.Code) { c.Funcs[0].Blocks[0][1].Ref = 2 },
		func(c *api.Code) { c.Funcs[0].Blocks[0][1].Ref = -1 },
		func(c *api.Code) { c.Funcs[0].Blocks[0][1].Ref = math.MaxInt },
		func(c *api.Code) { c.Funcs[0].Blocks[0][1].Args = nil },
		func(c *api.Code) { c.Funcs[0].Blocks[0][1].Args[0] = 9 },
		func(c *api.Code) { c.Funcs[0].Blocks[0][1].Kind = 14 },
		func(c *api.Code) { c.Funcs[0].Blocks[0] = nil },
	} {
		c := code(t, p, text)
		told(t, p, c)
		change(&c)
		refused(t, p, c)
	}
	right := code(t, p, text)
	refused(t, api.Policy{}, right)
	refused(t, api.Policy{}, api.Code{})
	refused(t, p, api.Code{})
	for _, depth := range []int{-1, 0, 65, math.MaxInt, math.MinInt} {
		p.Depth = depth
		refused(t, p, right)
	}
}

// TestGreatCode: as many functions as there may be, in a row, with each depth; and one that calls all.
func TestGreatCode(t *testing.T) {
	p := setting(t, setup)
	var s strings.Builder
	for i := range 62 {
		s.WriteString("fn f" + strconv.Itoa(i+1) + "() { a: x = call f" + strconv.Itoa(i) + "() return x }\n")
	}
	s.WriteString("fn main() { a: x = call f62() return x }")
	row := code(t, p, "fn f0() { a: x = const 1 return x }\n"+s.String())
	for depth := 1; depth <= 64; depth++ {
		p.Depth = depth
		deep, e := calls.Deep(p, row)
		if e != api.OK || len(deep) != 64 {
			t.Fatalf("P18.3: %v, %d", deep, e)
		}
		for i, is := range deep {
			if want := i == 63 && depth == 1 || i < 63 && 64-i >= depth; is != want {
				t.Errorf("P18.3: f%d with the depth %d: %v", i, depth, is)
			}
		}
	}
	told(t, p, row)
	told(t, p, code(t, p, "fn f0() { a: x = call main() return x }\n"+s.String()))
	told(t, p, fan())
}

// body is a function by chance, which calls others that it is let, and puts out a number ahead of each call; if it is to fork, it may go by a call.
func body(r *rand.Rand, let []int, forks bool) api.Body {
	out := api.Op{Kind: api.KOutput, Dst: -1, Ref: 1, Args: []int{0}}
	b := api.Body{Vars: 1, Blocks: [][]api.Op{{{Kind: api.KConst, Num: 1}}}}
	if forks {
		b.Blocks[0][0] = api.Op{Kind: api.KInput, Ref: 1}
	}
	for at := range 1 + r.Intn(3) {
		var l []api.Op
		for range r.Intn(3) {
			if len(let) > 0 {
				l = append(l, out, api.Op{Kind: api.KCall, Dst: b.Vars, Ref: let[r.Intn(len(let))]})
				b.Vars++
			}
		}
		end := api.Op{Kind: api.KJump, Dst: -1, Ref: 2*at + 2}
		ask := api.Op{Kind: api.KBranch, Dst: -1, Ref: 2*at + 1, Alt: 2*at + 2, Args: []int{0}}
		if !forks {
			ask.Alt = ask.Ref
		}
		b.Blocks[2*at] = append(b.Blocks[2*at], ask)
		b.Blocks = append(b.Blocks, append(l, end), nil)
	}
	last := len(b.Blocks) - 1
	b.Blocks[last] = append(b.Blocks[last], api.Op{Kind: api.KReturn, Dst: -1, Args: []int{0}})
	return b
}

// program is code of a few functions; if it goes round, each may call each one, else only one of a greater number.
func program(r *rand.Rand, forks, round bool) api.Code {
	n := 1 + r.Intn(7)
	c := api.Code{Main: r.Intn(2) * r.Intn(n)}
	for i := range n {
		var let []int
		for j := range n {
			if j > i || round {
				let = append(let, j)
			}
		}
		c.Funcs = append(c.Funcs, body(r, let, forks))
	}
	return c
}

// TestRuns: a run ends with ErrDepth by a call in a function that is deep alone; and where all calls are done, it does, if there is such a call.
func TestRuns(t *testing.T) {
	r := rand.New(rand.NewSource(183))
	status := map[bool]map[api.Errno]int{true: {}, false: {}}
	for k := range 4000 {
		p := setting(t, setup)
		p.Depth = 1 + r.Intn(6)
		forks := k%2 == 0
		c := program(r, forks, k%3 == 0)
		told(t, p, c)
		deep, _ := calls.Deep(p, c)
		in := make([][]int64, 2)
		for range r.Intn(4096) {
			in[1] = append(in[1], int64(r.Intn(4)))
		}
		result, e := interp.Run(p, c, in, api.MaxFuel)
		if e != api.OK {
			t.Fatalf("the test's own code is not run: %d", e)
		}
		status[forks][result.Status]++
		if result.Status == api.ErrDepth {
			// What was put out last was put out right ahead of the call.
			if last := result.Events[len(result.Events)-1]; !deep[last.Fn] {
				t.Fatalf("P18.3: a call in the function %d of %v ends a run, but Deep is %v", last.Fn, c, deep)
			}
		}
		may := false
		for i, is := range deep {
			may = may || is && len(called(c, i)) > 0
		}
		if !forks && result.Status != api.ErrFuel && may != (result.Status == api.ErrDepth) {
			t.Fatalf("P18.3: a run of %v ends with %d, but Deep is %v", c, result.Status, deep)
		}
	}
	for forks, l := range status {
		if l[api.OK] < 200 || l[api.ErrDepth] < 200 {
			t.Errorf("the test's own runs end with %v, forks %v", l, forks)
		}
	}
}
