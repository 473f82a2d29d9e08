package ssa_test

import (
	"math"
	"math/rand"
	"reflect"
	"slices"
	"strings"
	"testing"

	"interdict/api"
	"interdict/names"
	"interdict/policy"
	"interdict/ssa"
	"interdict/tree"
)

const setup = "level low\nlevel high\nflow low high\ninput key high\ninput net low\noutput net low\noutput vault high\ndepth 8"

// setting is the policy of a text.
func setting(t *testing.T, s string) api.Policy {
	t.Helper()
	p, _, e := policy.Parse(s)
	if e != api.OK {
		t.Fatalf("the test's own policy %q is refused: %d", s, e)
	}
	return p
}

// code is that of a program's text.
func code(t *testing.T, p api.Policy, s string) api.Code {
	t.Helper()
	q, at, e := tree.Parse(s)
	if e != api.OK {
		t.Fatalf("the test's own program %q is refused: %d at %d", s, e, at)
	}
	c, at, e := names.Resolve(p, q)
	if e != api.OK {
		t.Fatalf("the test's own program %q has a wrong name: %d at %d", s, e, at)
	}
	return c
}

// plain is code with nil for each list that is empty, in memory of its own.
func plain(c api.Code) api.Code {
	d := api.Code{Arrays: append([]api.Cell(nil), c.Arrays...), Funcs: append([]api.Body(nil), c.Funcs...), Main: c.Main}
	for i, b := range d.Funcs {
		d.Funcs[i].Blocks = append([][]api.Op(nil), b.Blocks...)
		for j, l := range b.Blocks {
			l = append([]api.Op(nil), l...)
			for k, x := range l {
				l[k].Args, l[k].From = append([]int(nil), x.Args...), append([]int(nil), x.From...)
			}
			d.Funcs[i].Blocks[j] = l
		}
	}
	return d
}

// ways tells to which blocks a block leads, as layer 10 says, each once.
func ways(l []api.Op) []int {
	end := l[len(l)-1]
	switch {
	case end.Kind == api.KReturn:
		return nil
	case end.Kind == api.KBranch && end.Ref != end.Alt:
		return []int{end.Ref, end.Alt}
	}
	return []int{end.Ref}
}

// without tells to which blocks ways from one lead that do not go through another one.
func without(b api.Body, from, gone int) []bool {
	been := make([]bool, len(b.Blocks))
	var wait []int
	if from != gone {
		wait, been[from] = []int{from}, true
	}
	for len(wait) > 0 {
		l := ways(b.Blocks[wait[0]])
		wait = wait[1:]
		for _, j := range l {
			if j != gone && !been[j] {
				been[j] = true
				wait = append(wait, j)
			}
		}
	}
	return been
}

// dominates tells it of two blocks, the second of which is reached.
func dominates(b api.Body, over, under int) bool {
	return over == under || !without(b, 0, over)[under]
}

// returns: do ways lead from a block to one that returns?
func returns(b api.Body, from int) bool {
	for i, is := range without(b, from, -1) {
		if is && len(ways(b.Blocks[i])) == 0 {
			return true
		}
	}
	return false
}

// defined tells the block and the place of what defines a value: -1, -1 of a parameter.
func defined(b api.Body, value int) (int, int) {
	for i, l := range b.Blocks {
		for k, x := range l {
			if x.Dst == value {
				return i, k
			}
		}
	}
	return -1, -1
}

// there: is a value there at an instruction?
func there(b api.Body, value, block, place int) bool {
	i, k := defined(b, value)
	return value < b.Params || i == block && k < place || i != block && dominates(b, i, block)
}

// thereAtEnd: is it there at the end of a block?
func thereAtEnd(b api.Body, value, block int) bool {
	i, _ := defined(b, value)
	return value < b.Params || dominates(b, i, block)
}

// leading are the blocks that lead to one.
func leading(b api.Body, to int) []int {
	var l []int
	for i := range b.Blocks {
		if slices.Contains(ways(b.Blocks[i]), to) {
			l = append(l, i)
		}
	}
	return l
}

// onlyOnce: has a list just the numbers of another one, each once?
func onlyOnce(l, want []int) bool {
	for i, x := range l {
		if slices.Contains(l[:i], x) || !slices.Contains(want, x) {
			return false
		}
	}
	return len(l) == len(want)
}

// found is a fault, and where it is.
type found struct {
	fn, at int
	e      api.Errno
}

// faults are all of a function that may be, in the chapter's order.
func faults(fn int, b api.Body) []found {
	var l []found
	add := func(is bool, at int, e api.Errno) {
		if is {
			l = append(l, found{fn, at, e})
		}
	}
	reached := without(b, 0, -1)
	for i, code := range b.Blocks {
		add(!reached[i], code[0].At, api.ErrReach)
	}
	for i, code := range b.Blocks {
		add(!returns(b, i), code[0].At, api.ErrExit)
	}
	add(len(leading(b, 0)) > 0, b.Blocks[0][0].At, api.ErrPhi)
	if len(l) > 0 {
		return l
	}
	for i, code := range b.Blocks {
		for k, x := range code {
			if x.Kind != api.KPhi {
				add(slices.ContainsFunc(x.Args, func(v int) bool { return !there(b, v, i, k) }), x.At, api.ErrUse)
				continue
			}
			add(!onlyOnce(x.From, leading(b, i)), x.At, api.ErrPhi)
			for n, v := range x.Args {
				add(!thereAtEnd(b, v, x.From[n]), x.At, api.ErrUse)
			}
		}
	}
	return l
}

// want is what Check is to tell.
func want(p api.Policy, c api.Code) found {
	if !names.Right(p, c) {
		return found{e: api.ErrArg}
	}
	for i, b := range c.Funcs {
		if l := faults(i, b); len(l) > 0 {
			return l[0]
		}
	}
	return found{}
}

// check holds what is said of a policy and code against the chapter.
func check(t *testing.T, p api.Policy, c api.Code) api.Errno {
	t.Helper()
	before, w := plain(c), want(p, c)
	fn, at, e := ssa.Check(p, c)
	if got := (found{fn, at, e}); got != w {
		t.Fatalf("P13.1: Check(%v) = %v, want %v", c, got, w)
	}
	if ssa.Right(p, c) != (w.e == api.OK) {
		t.Fatalf("P13.1: Right(%v) = %v", c, w.e != api.OK)
	}
	if !reflect.DeepEqual(plain(c), before) {
		t.Fatalf("R4: what was handed in is changed: %v, was %v", c, before)
	}
	return e
}

func TestCheck(t *testing.T) {
	p := setting(t, setup)
	for _, c := range []struct {
		text string
		fn   int
		at   string // what the text at the place begins with
		e    api.Errno
	}{
		{"fn main() { a: x = const 7 return x }", 0, "", api.OK},
		// The chapter's examples.
		{"fn main() { a: x = const 2 branch x b c b: y = const 1 jump d c: jump d d: return y }", 0, "return y", api.ErrUse},
		{"fn main() { a: x = const 2 branch x b c b: y = const 1 jump d c: jump d d: z = phi [b: y, c: x] return z }", 0, "", api.OK},
		{"fn main() { a: branch x b c b: y = const 1 jump d c: x = const 2 jump d d: z = phi [b: y, c: x] return z }", 0, "branch", api.ErrUse},
		{"fn main() { a: jump a }", 0, "jump a", api.ErrExit},
		// Where control goes; the place of a block is that of its first instruction.
		{"fn main() { a: x = const 1 return x b: return x }", 0, "return x }", api.ErrReach},
		{"fn main() { a: x = const 1 return x b: y = const 1 jump c c: jump b }", 0, "y =", api.ErrReach},
		{"fn main() { a: x = const 1 jump c b: return x c: return x }", 0, "return x c", api.ErrReach},
		{"fn main() { a: x = const 1 return x b: return x c: return x }", 0, "return x c", api.ErrReach},
		{"fn main() { a: x = const 1 branch x b c b: z = const 2 jump b c: return x }", 0, "z =", api.ErrExit},
		{"fn main() { a: x = const 1 branch x c b b: jump b c: jump c }", 0, "x =", api.ErrExit},
		{"fn main() { a: x = const 1 branch x b c b: jump d c: return x d: jump b }", 0, "jump d", api.ErrExit},
		{"fn main() { a: x = const 1 branch x a b b: return x }", 0, "x =", api.ErrPhi},
		{"fn main() { a: x = const 1 branch x b c b: jump a c: return x }", 0, "x =", api.ErrPhi},
		{"fn main() { a: x = phi [b: y] jump b b: y = const 1 branch y a c c: return y }", 0, "x =", api.ErrPhi},
		// Reach counts ahead of exit, and that ahead of a way to the first block, and all ahead of instructions.
		{"fn main() { a: x = add y y jump a b: y = const 1 return y }", 0, "y =", api.ErrReach},
		{"fn main() { a: x = add y y branch x a b b: y = const 1 jump b }", 0, "x =", api.ErrExit},
		{"fn main() { a: x = add y y branch x a b b: y = const 1 branch y c d c: jump c d: return y }", 0, "jump c", api.ErrExit},
		{"fn main() { a: x = const 1 jump b b: jump a c: return x }", 0, "return", api.ErrReach},
		{"fn main() { a: x = add y y branch x a b b: y = const 1 return y }", 0, "x =", api.ErrPhi},
		{"fn main() { a: x = add x x branch x b c b: jump b c: return x }", 0, "jump b", api.ErrExit},
		// Phis.
		{"fn main() { a: x = const 2 jump b b: y = phi [b: x] return y }", 0, "y =", api.ErrPhi},
		{"fn main() { a: x = phi [a: x] return x }", 0, "x =", api.ErrPhi},
		{"fn main() { a: x = const 2 jump b b: y = phi [a: x, b: x] return y }", 0, "y =", api.ErrPhi},
		{"fn main() { a: x = const 2 jump b b: y = phi [a: x, a: x] return y }", 0, "y =", api.ErrPhi},
		{"fn main() { a: x = const 2 branch x b c b: jump c c: y = phi [a: x] return y }", 0, "y =", api.ErrPhi},
		{"fn main() { a: x = const 2 branch x b c b: jump c c: y = phi [b: x] return y }", 0, "y =", api.ErrPhi},
		{"fn main() { a: x = const 2 branch x b c b: jump c c: y = phi [b: x, b: x] return y }", 0, "y =", api.ErrPhi},
		{"fn main() { a: x = const 2 branch x b c b: jump c c: y = phi [a: x, b: x, a: x] return y }", 0, "y =", api.ErrPhi},
		{"fn main() { a: x = const 2 branch x b c b: jump c c: y = phi [b: x, a: x] return y }", 0, "", api.OK},
		{"fn main() { a: x = const 2 branch x b c b: jump c c: y = phi [a: x, b: x] return y }", 0, "", api.OK},
		{"fn main() { a: x = const 2 branch x b b b: y = phi [a: x] return y }", 0, "", api.OK},
		{"fn main() { a: x = const 2 branch x b b b: y = phi [a: x, a: x] return y }", 0, "y =", api.ErrPhi},
		// A phi takes its values at the end of the blocks: its own ones, and such as stand behind it.
		{"fn main() { a: x = const 2 jump b b: y = phi [a: x, b: y] branch y b c c: return y }", 0, "", api.OK},
		{"fn main() { a: x = const 2 jump b b: y = phi [a: x, b: z] z = const 1 branch y b c c: return z }", 0, "", api.OK},
		{"fn main() { a: x = const 2 jump b b: y = phi [a: x, b: z] w = phi [a: x, b: y] z = const 1 branch y b c c: return w }", 0, "", api.OK},
		{"fn main() { a: x = const 2 jump b b: y = phi [a: z, b: x] z = const 1 branch y b c c: return z }", 0, "y =", api.ErrUse},
		{"fn main() { a: x = const 2 jump b b: y = phi [a: x, b: z] branch y b c c: z = const 1 return z }", 0, "y =", api.ErrUse},
		{"fn main() { a: x = const 2 branch x b c b: y = const 1 jump d c: z = const 3 jump d d: w = phi [b: z, c: y] return w }", 0, "w =", api.ErrUse},
		{"fn main() { a: x = const 2 branch x b c b: y = const 1 jump d c: z = const 3 jump d d: w = phi [c: z, b: y] return w }", 0, "", api.OK},
		{"fn main() { a: x = const 2 branch x b c b: y = const 1 jump d c: z = const 3 jump d d: w = phi [b: y, c: w] return w }", 0, "w =", api.ErrUse},
		{"fn main() { a: x = const 2 jump b b: y = phi [a: y] return y }", 0, "y =", api.ErrUse},
		{"fn main() { a: x = const 2 jump b b: y = phi [b: y] return y }", 0, "y =", api.ErrPhi},
		// A phi that is ahead is there, though both take their values at one time.
		{"fn main() { a: x = const 2 jump b b: y = phi [a: x] w = phi [a: y] return w }", 0, "w =", api.ErrUse},
		{"fn main() { a: x = const 2 jump b b: y = phi [a: x] w = add y y return w }", 0, "", api.OK},
		// Uses: of what stands behind, in its own place, in a block that does not dominate, in one that does.
		{"fn main() { a: y = add x x x = const 1 return y }", 0, "y =", api.ErrUse},
		{"fn main() { a: y = add y y return y }", 0, "y =", api.ErrUse},
		{"fn main() { a: x = const 1 y = add x y return y }", 0, "y =", api.ErrUse},
		{"fn main() { a: x = const 1 y = add y x return y }", 0, "y =", api.ErrUse},
		{"fn main() { a: x = const 1 jump c b: return y c: y = const 2 jump b }", 0, "", api.OK},
		{"fn main() { a: x = const 1 jump b b: output net y y = const 2 branch x b c c: return y }", 0, "output", api.ErrUse},
		{"array t 2 low fn main() { a: x = const 1 jump b b: store t x y y = const 2 return y }", 0, "store", api.ErrUse},
		{"fn main() { a: x = const 1 branch x b c b: y = const 2 jump c c: y2 = release y low return x }", 0, "y2 =", api.ErrUse},
		{"fn main() { a: x = const 1 branch x b c b: y = const 2 jump c c: branch y d d d: return x }", 0, "branch y", api.ErrUse},
		{"fn main() { a: x = const 1 branch x b c b: y = const 2 jump c c: z = call f(x, y) return x } fn f(n, m) { a: return m }", 0, "z =", api.ErrUse},
		{"fn f(n, m) { a: x = add m n branch n b c b: return m c: z = call f(x, m) return z } fn main() { a: x = const 1 return x }", 0, "", api.OK},
		// The first instruction that is wrong, block by block; of one phi its From ahead of its Args.
		{"fn main() { a: x = const 1 jump b b: y = phi [b: z] z = add w w w = const 1 return y }", 0, "y =", api.ErrPhi},
		{"fn main() { a: x = const 1 jump b b: y = phi [a: z] w = phi [b: x] z = add w w return y }", 0, "y =", api.ErrUse},
		{"fn main() { a: x = const 1 jump b b: y = phi [a: x] w = phi [b: x] z = add z w return y }", 0, "w =", api.ErrPhi},
		{"fn main() { a: jump c b: return y c: z = add z z y = const 2 jump b }", 0, "z =", api.ErrUse},
		{"fn main() { a: jump c b: return w c: z = add z z jump d d: w = const 1 jump b }", 0, "z =", api.ErrUse},
		{"fn main() { a: branch x b c b: x = const 1 return x c: return x }", 0, "branch", api.ErrUse},
		// Function by function.
		{"fn f() { a: x = const 1 return x } fn main() { a: jump a }", 1, "jump a", api.ErrExit},
		{"fn f() { a: x = add x x return x } fn main() { a: jump a }", 0, "x =", api.ErrUse},
		{"fn main() { a: x = phi [a: x] return x } fn f() { a: x = const 1 return x b: return x }", 0, "x =", api.ErrPhi},
		{"fn f(n) { a: return n } fn main() { a: x = const 1 return x } fn g(n) { a: return n b: jump b }", 2, "jump b", api.ErrReach},
	} {
		d := code(t, p, c.text)
		w := found{c.fn, 0, c.e}
		if c.at != "" {
			w.at = strings.Index(c.text, c.at)
		}
		fn, at, e := ssa.Check(p, d)
		if got := (found{fn, at, e}); got != w {
			t.Errorf("P13.1: Check of %q = %v, want %v", c.text, got, w)
		}
		check(t, p, d)
	}
}

func TestWhatMayNotBe(t *testing.T) {
	p := setting(t, setup)
	right := code(t, p, "array t 2 low fn main() { a: x = const 2 branch x b c b: y = load t x jump d c: jump d d: z = phi [b: y, c: x] return z } fn f(n) { a: return n }")
	if e := check(t, p, right); e != api.OK {
		t.Fatalf("P13.1: Check = %d", e)
	}
	for _, change := range []func(c *api.Code){
		func(c *api.Code) { c.Main = 1 },
		func(c *api.Code) { c.Main = -1 },
		func(c *api.Code) { c.Arrays = nil },
		func(c *api.Code) { c.Arrays[0].Size = 0 },
		func(c *api.Code) { c.Funcs = nil },
		func(c *api.Code) { c.Funcs[0].Vars++ },
		func(c *api.Code) { c.Funcs[0].Vars = math.MaxInt },
		func(c *api.Code) { c.Funcs[1].Params = -1 },
		func(c *api.Code) { c.Funcs[0].Blocks = nil },
		func(c *api.Code) { c.Funcs[0].Blocks[1] = nil },
		func(c *api.Code) { c.Funcs[0].Blocks[3][0].From = nil },
		func(c *api.Code) { c.Funcs[0].Blocks[3][0].From[0] = 4 },
		func(c *api.Code) { c.Funcs[0].Blocks[3][0].Args[0] = -1 },
		func(c *api.Code) { c.Funcs[0].Blocks[3][1].Args = nil },
		func(c *api.Code) { c.Funcs[0].Blocks[0][1].Ref = 99 },
		func(c *api.Code) { c.Funcs[0].Blocks[0][0].Dst = 1 },
		func(c *api.Code) { c.Funcs[0].Blocks[0][0].Kind = 99 },
	} {
		c := plain(right)
		change(&c)
		if e := check(t, p, c); e != api.ErrArg {
			t.Errorf("P13.1: Check(%v) = %d, want ErrArg", c, e)
		}
	}
	for _, none := range []api.Policy{{}, setting(t, "level low\ndepth 1")} {
		c := plain(right)
		c.Funcs[0].Blocks[0][0] = api.Op{Kind: api.KInput, Dst: 0, Ref: 1}
		if e := check(t, none, c); e != api.ErrArg {
			t.Errorf("P13.1: Check of another policy = %d, want ErrArg", e)
		}
	}
	check(t, api.Policy{}, api.Code{})
	check(t, p, api.Code{})
}

// TestPlaces: the place of a fault is the At of its instruction, whatever that is.
func TestPlaces(t *testing.T) {
	p := setting(t, setup)
	for _, at := range []int{-1, 0, 7, math.MaxInt, math.MinInt} {
		for _, s := range []string{
			"fn main() { a: x = const 1 return x b: return x }",
			"fn main() { a: x = const 1 branch x b c b: jump b c: return x }",
			"fn main() { a: x = const 1 branch x a b b: return x }",
			"fn main() { a: x = const 1 jump b b: y = phi [b: x] return y }",
			"fn main() { a: y = add x x x = const 1 return y }",
		} {
			c := code(t, p, s)
			for i, l := range c.Funcs[0].Blocks {
				for k := range l {
					l[k].At = at - 8*i - k // going round: any will do
				}
			}
			if check(t, p, c) == api.OK {
				t.Errorf("P13.1: no fault of %q", s)
			}
		}
	}
}

// maker makes code by chance.
type maker struct {
	*rand.Rand
	p  api.Policy
	at int
}

// body makes a function that may be: params parameters, blocks blocks. The less it errs, the likelier is each value there.
func (m *maker) body(params, blocks int, errs float64) api.Body {
	b := api.Body{Params: params, Vars: params}
	// First all ends and how many others; then values, when all are known.
	shape := make([][]uint8, blocks)
	for i := range shape {
		for range m.Intn(3) {
			shape[i] = append(shape[i], api.KPhi)
		}
		if i == 0 && m.Float64() >= errs {
			shape[i] = nil
		}
		for range m.Intn(3) {
			shape[i] = append(shape[i], []uint8{api.KConst, api.KConst, api.KBin, api.KOutput, api.KRelease, api.KInput}[m.Intn(6)])
		}
		b.Vars += len(shape[i]) - strings.Count(string(shape[i]), string(rune(api.KOutput)))
	}
	if b.Vars == 0 {
		shape[0] = []uint8{api.KConst}
		b.Vars++
	}
	for i := range shape {
		b.Blocks = append(b.Blocks, []api.Op{m.end(b, blocks, i, errs)})
	}
	dst := params
	for i := range shape {
		var l []api.Op
		for range shape[i] {
			l = append(l, api.Op{Dst: -1})
		}
		b.Blocks[i] = append(l, b.Blocks[i]...)
		for k, kind := range shape[i] {
			l := b.Blocks[i]
			l[k].Kind = kind
			if kind != api.KOutput {
				l[k].Dst = dst
				dst++
			}
		}
	}
	m.fill(b, errs)
	return b
}

// end is a block's last instruction: mostly one that leads to the next block, if no earlier one does.
func (m *maker) end(b api.Body, blocks, i int, errs float64) api.Op {
	to := func() int {
		if blocks > 1 && m.Float64() >= errs {
			return 1 + m.Intn(blocks-1)
		}
		return m.Intn(blocks)
	}
	next := min(i+1, blocks-1)
	if m.Float64() < errs || slices.ContainsFunc(b.Blocks, func(l []api.Op) bool { return slices.Contains(ways(l), next) }) {
		next = to()
	}
	x := api.Op{Kind: api.KBranch, Dst: -1, Ref: next, Alt: to()}
	switch k := m.Intn(6); {
	case i == blocks-1 && m.Float64() >= errs || next != i+1 && k < 2:
		return api.Op{Kind: api.KReturn, Dst: -1}
	case k == 2:
		return api.Op{Kind: api.KJump, Dst: -1, Ref: next}
	case k == 3:
		x.Ref, x.Alt = x.Alt, x.Ref
	}
	return x
}

// fill gives all instructions their values.
func (m *maker) fill(b api.Body, errs float64) {
	for i, l := range b.Blocks {
		for k := range l {
			x := &l[k]
			m.at++
			x.At = m.at
			value := func(is func(int) bool) int {
				v := m.Intn(b.Vars)
				for n := 0; n < 20 && !is(v) && m.Float64() >= errs; n++ {
					v = m.Intn(b.Vars)
				}
				return v
			}
			here := func(v int) bool { return there(b, v, i, k) }
			switch x.Kind {
			case api.KPhi:
				x.From = leading(b, i)
				m.Shuffle(len(x.From), func(n, o int) { x.From[n], x.From[o] = x.From[o], x.From[n] })
				if len(x.From) == 0 || m.Float64() < errs/4 {
					x.From = append(x.From, m.Intn(len(b.Blocks)))
				}
				for _, j := range x.From {
					x.Args = append(x.Args, value(func(v int) bool { return thereAtEnd(b, v, j) }))
				}
			case api.KBin:
				x.Op, x.Args = api.OpAdd, []int{value(here), value(here)}
			case api.KOutput, api.KRelease, api.KBranch, api.KReturn:
				x.Args = []int{value(here)}
			}
		}
	}
}

// code makes a program of a few functions.
func (m *maker) code(errs float64) api.Code {
	var c api.Code
	for range 1 + m.Intn(3) {
		c.Funcs = append(c.Funcs, m.body(m.Intn(3), 1+m.Intn(6), errs))
	}
	c.Funcs = append(c.Funcs, m.body(0, 1+m.Intn(6), errs))
	c.Main = len(c.Funcs) - 1
	return c
}

// TestByChance holds much code against the chapter, some of it without a fault, and what each change of one number makes of it.
func TestByChance(t *testing.T) {
	m := &maker{Rand: rand.New(rand.NewSource(13)), p: setting(t, setup)}
	told := map[api.Errno]int{}
	for n := range 24000 {
		c := m.code([]float64{0, 0.02, 0.1, 0.5}[n%4])
		if !names.Right(m.p, c) {
			t.Fatalf("the test's own code may not be: %v", c)
		}
		e := check(t, m.p, c)
		told[e]++
		if e == api.OK {
			told[check(t, m.p, m.changed(c))]++
		}
	}
	for _, e := range []api.Errno{api.OK, api.ErrArg, api.ErrReach, api.ErrExit, api.ErrPhi, api.ErrUse} {
		if told[e] < 100 {
			t.Errorf("the test's own code has the error %d only %d times", e, told[e])
		}
	}
}

// changed is code, one of whose numbers is another one.
func (m *maker) changed(c api.Code) api.Code {
	c = plain(c)
	b := c.Funcs[m.Intn(len(c.Funcs))]
	l := b.Blocks[m.Intn(len(b.Blocks))]
	x := &l[m.Intn(len(l))]
	switch m.Intn(4) {
	case 0:
		x.Ref = m.Intn(len(b.Blocks)+2) - 1
	case 1:
		x.Alt = m.Intn(len(b.Blocks)+2) - 1
	case 2:
		for i := range x.Args {
			x.Args[i] = m.Intn(b.Vars+2) - 1
		}
	case 3:
		for i := range x.From {
			x.From[i] = m.Intn(len(b.Blocks)+2) - 1
		}
	}
	return c
}

// TestWalks: in code without a fault, on whatever way, what is used has been defined.
func TestWalks(t *testing.T) {
	m := &maker{Rand: rand.New(rand.NewSource(14)), p: setting(t, setup)}
	walks := 0
	for range 3000 {
		c := m.code(0.01)
		if !ssa.Right(m.p, c) {
			continue
		}
		for _, b := range c.Funcs {
			for range 4 {
				m.walk(t, b)
				walks++
			}
		}
	}
	if walks < 1000 {
		t.Errorf("the test's own code has only %d walks", walks)
	}
}

// walk goes some way through a function.
func (m *maker) walk(t *testing.T, b api.Body) {
	t.Helper()
	known := make([]bool, b.Vars)
	for i := range b.Params {
		known[i] = true
	}
	for block, from, n := 0, -1, 0; n < 40; n++ {
		define := known
		known = slices.Clone(known)
		for k, x := range b.Blocks[block] {
			args := x.Args
			if x.Kind == api.KPhi {
				at := slices.Index(x.From, from)
				if at < 0 {
					t.Fatalf("P13.1: the phi %d of %d has nothing for %d: %v", k, block, from, b)
				}
				args = args[at : at+1]
				if !define[args[0]] {
					t.Fatalf("P13.1: the value %d is not there at the phi %d of %d: %v", args[0], k, block, b)
				}
			}
			for _, v := range args {
				if !known[v] {
					t.Fatalf("P13.1: the value %d is not there at %d of %d: %v", v, k, block, b)
				}
			}
			if x.Dst >= 0 {
				known[x.Dst] = true
			}
		}
		l := ways(b.Blocks[block])
		if len(l) == 0 {
			return
		}
		from, block = block, l[m.Intn(len(l))]
	}
}

// TestGreat: as much code as there may be, and one piece more.
func TestGreat(t *testing.T) {
	p := setting(t, setup)
	for _, blocks := range []int{64, 65} {
		// A chain: what the first block defines is used in the last one, and what each defines in the next one.
		b := api.Body{Vars: blocks}
		for i := range blocks {
			b.Blocks = append(b.Blocks, []api.Op{{Kind: api.KRelease, Dst: i, Args: []int{max(i-1, 0)}, At: i}, {Kind: api.KJump, Dst: -1, Ref: i + 1}})
		}
		b.Blocks[0][0] = api.Op{Kind: api.KConst, Dst: 0}
		b.Blocks[blocks-1][1] = api.Op{Kind: api.KReturn, Dst: -1, Args: []int{0}}
		c := api.Code{Funcs: []api.Body{b}}
		e := check(t, p, c)
		if blocks == 64 && e != api.OK || blocks == 65 && e != api.ErrArg {
			t.Errorf("P13.1: of %d blocks %d", blocks, e)
		}
		b.Blocks[10][0].Args[0] = 10
		if fn, at, e := ssa.Check(p, c); blocks == 64 && (fn != 0 || at != 10 || e != api.ErrUse) {
			t.Errorf("P13.1: of %d blocks %d, %d, %d", blocks, fn, at, e)
		}
	}
	for _, n := range []int{4095, 4096} {
		var l []api.Op
		for i := range n {
			l = append(l, api.Op{Kind: api.KRelease, Dst: i, Args: []int{max(i-1, 0)}, At: i})
		}
		l[0] = api.Op{Kind: api.KConst, Dst: 0}
		c := api.Code{Funcs: []api.Body{{Vars: n, Blocks: [][]api.Op{append(l, api.Op{Kind: api.KReturn, Dst: -1, Args: []int{n - 1}})}}}}
		e := check(t, p, c)
		if n == 4095 && e != api.OK || n == 4096 && e != api.ErrArg {
			t.Errorf("P13.1: of %d instructions %d", n+1, e)
		}
	}
	// Phis of as many pairs as there are blocks, turned round.
	b := api.Body{Params: 1, Vars: 1 + 62*30}
	for i := range 62 {
		b.Blocks = append(b.Blocks, []api.Op{{Kind: api.KBranch, Dst: -1, Ref: i + 1, Alt: 62, Args: []int{0}}})
	}
	var l []api.Op
	for k := range 62 * 30 {
		x := api.Op{Kind: api.KPhi, Dst: 1 + k, At: k}
		for i := range 62 {
			x.From, x.Args = append(x.From, 61-i), append(x.Args, 0)
		}
		l = append(l, x)
	}
	b.Blocks = append(b.Blocks, append(l, api.Op{Kind: api.KReturn, Dst: -1, Args: []int{0}}))
	b.Blocks[61][0] = api.Op{Kind: api.KJump, Dst: -1, Ref: 62}
	main := api.Body{Vars: 1, Blocks: [][]api.Op{{{Kind: api.KConst}, {Kind: api.KReturn, Dst: -1, Args: []int{0}}}}}
	c := api.Code{Funcs: []api.Body{b, main}, Main: 1}
	if fn, at, e := ssa.Check(p, c); fn != 0 || at != 0 || e != api.OK {
		t.Errorf("P13.1: of many pairs %d, %d, %d", fn, at, e)
	}
	b.Blocks[62][1000].From[7] = 3
	if fn, at, e := ssa.Check(p, c); fn != 0 || at != 1000 || e != api.ErrPhi {
		t.Errorf("P13.1: of many pairs %d, %d, %d", fn, at, e)
	}
}

// places are what Defs is to tell.
func places(b api.Body) ([][2]int, bool) {
	if b.Params < 0 || b.Params > b.Vars || b.Vars > 4096+6 {
		return nil, false
	}
	times := map[int]int{}
	var l [][2]int
	for v := range b.Vars {
		i, k := -1, -1
		if v >= b.Params {
			i, k = defined(b, v)
		}
		l = append(l, [2]int{i, k})
	}
	for _, code := range b.Blocks {
		for _, x := range code {
			if x.Dst != -1 && (x.Dst < b.Params || x.Dst >= b.Vars) {
				return nil, false
			}
			times[x.Dst]++
		}
	}
	for v := b.Params; v < b.Vars; v++ {
		if times[v] != 1 {
			return nil, false
		}
	}
	return l, true
}

// checkDefs holds what is said of a function against the chapter.
func checkDefs(t *testing.T, b api.Body) bool {
	t.Helper()
	before := plain(api.Code{Funcs: []api.Body{b}})
	w, is := places(b)
	got, ok := ssa.Defs(b)
	if ok != is || !slices.Equal(got, w) {
		t.Fatalf("P13.2: Defs(%v) = %v, %v, want %v, %v", b, got, ok, w, is)
	}
	for i := range got {
		got[i] = [2]int{99, 99}
	}
	if again, _ := ssa.Defs(b); !slices.Equal(again, w) {
		t.Fatalf("R4: a later answer is changed: Defs(%v) = %v, want %v", b, again, w)
	}
	if !reflect.DeepEqual(plain(api.Code{Funcs: []api.Body{b}}), before) {
		t.Fatalf("R4: what was handed in is changed: %v, was %v", b, before)
	}
	return ok
}

// dsts is a function of blocks of instructions that define those values.
func dsts(params, vars int, l ...[]int) api.Body {
	b := api.Body{Params: params, Vars: vars}
	for _, values := range l {
		var code []api.Op
		for _, v := range values {
			code = append(code, api.Op{Dst: v})
		}
		b.Blocks = append(b.Blocks, code)
	}
	return b
}

func TestDefs(t *testing.T) {
	for _, c := range []struct {
		b    api.Body
		want bool
	}{
		{dsts(1, 2, []int{1, -1}), true},
		{dsts(2, 5, []int{2, -1}, []int{-1, 3, 4, -1}), true},
		{dsts(0, 3, []int{2}, []int{1}, []int{0}), true}, // in whatever order
		{dsts(0, 0), true},
		{dsts(0, 0, []int{-1}), true},
		{dsts(3, 3), true},
		{dsts(9, 9), true}, // more than a function may have in code
		{dsts(4102, 4102, nil, []int{-1}), true},
		{dsts(4103, 4103), false},
		{dsts(0, 4103), false},
		{dsts(0, math.MaxInt), false},
		{dsts(math.MaxInt, math.MaxInt), false},
		{dsts(math.MinInt, math.MaxInt), false},
		{dsts(math.MinInt, math.MinInt), false},
		{dsts(-1, 0), false},
		{dsts(-1, 1, []int{0}), false},
		{dsts(-1, -1), false},
		{dsts(0, -1), false},
		{dsts(2, 1), false},
		{dsts(2, 1, []int{1}), false},
		{dsts(0, 1), false},               // a value that nothing defines
		{dsts(0, 2, []int{0, -1}), false}, // likewise
		{dsts(0, 2, []int{1, -1}), false}, // likewise
		{dsts(0, 1, []int{0, 0}), false},  // one that is defined twice
		{dsts(0, 1, []int{0}, []int{0}), false},
		{dsts(0, 2, []int{0, 1, 0}), false},
		{dsts(1, 2, []int{0, 1}), false}, // a parameter
		{dsts(1, 2, []int{1, 0}), false},
		{dsts(1, 1, []int{0}), false},
		{dsts(0, 1, []int{0, 1}), false}, // a value beyond all
		{dsts(0, 1, []int{0, -2}), false},
		{dsts(0, 1, []int{0, math.MinInt}), false},
		{dsts(0, 1, []int{0, math.MaxInt}), false},
		{api.Body{}, true},
	} {
		if got := checkDefs(t, c.b); got != c.want {
			t.Errorf("P13.2: Defs(%v) tells %v", c.b, got)
		}
	}
	var l []int
	for i := range 4096 {
		l = append(l, 4101-i)
	}
	if !checkDefs(t, dsts(6, 4102, []int{-1}, l)) {
		t.Error("P13.2: of as many values as there may be: false")
	}
	if checkDefs(t, dsts(6, 4103, append(l, 4102))) {
		t.Error("P13.2: of one value more: true")
	}
	if got, ok := ssa.Defs(dsts(2, 5, []int{2, -1}, []int{-1, 4, 3, -1})); !ok || !slices.Equal(got, [][2]int{{-1, -1}, {-1, -1}, {0, 0}, {1, 2}, {1, 1}}) {
		t.Errorf("P13.2: %v, %v", got, ok)
	}
}

// TestAllSmallDefs asks of all functions of few values and instructions.
func TestAllSmallDefs(t *testing.T) {
	told := 0
	for params := -1; params <= 3; params++ {
		for vars := -1; vars <= 3; vars++ {
			for n := range 5 {
				all := 1
				for range n {
					all *= 6
				}
				for k := range all {
					var l []int
					for range n {
						l = append(l, k%6-2)
						k /= 6
					}
					if checkDefs(t, dsts(params, vars, l[:n/2], nil, l[n/2:])) {
						told++
					}
				}
			}
		}
	}
	if told < 100 {
		t.Errorf("the test's own functions have definitions only %d times", told)
	}
}

// TestNothingIsShared: what is handed in has spare room, which stays as it is.
func TestNothingIsShared(t *testing.T) {
	p := setting(t, setup)
	c := code(t, p, "fn main() { a: x = const 2 branch x b c b: y = const 1 jump d c: jump d d: z = phi [c: x, b: y] return z }")
	phi := &c.Funcs[0].Blocks[3][0]
	room := append(slices.Clone(phi.From), 77, 78)
	args := append(slices.Clone(phi.Args), 87, 88)
	phi.From, phi.Args = room[:2], args[:2]
	blocks := append(slices.Clone(c.Funcs[0].Blocks), []api.Op{{Dst: 5}})
	c.Funcs[0].Blocks = blocks[:4]
	if _, _, e := ssa.Check(p, c); e != api.OK {
		t.Fatalf("P13.1: Check = %d", e)
	}
	if _, ok := ssa.Defs(c.Funcs[0]); !ok {
		t.Fatal("P13.2: Defs: false")
	}
	if !slices.Equal(room, []int{2, 1, 77, 78}) || !slices.Equal(args, []int{0, 1, 87, 88}) || blocks[4][0].Dst != 5 {
		t.Errorf("R4: what was handed in is changed: %v, %v, %v", room, args, blocks[4])
	}
}
