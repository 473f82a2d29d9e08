package names_test

import (
	"math"
	"math/rand"
	"reflect"
	"slices"
	"strconv"
	"strings"
	"testing"

	"interdict/api"
	"interdict/names"
	"interdict/policy"
	"interdict/printer"
	"interdict/tree"
)

const setup = "level low\nlevel high\nflow low high\ninput key high\ninput net low\noutput net low\noutput vault high\ndepth 8"

// setting is the policy of a text.
func setting(t *testing.T, s string) api.Policy {
	t.Helper()
	p, _, e := policy.Parse(s)
	if e != api.OK {
		t.Fatalf("the test's own policy %q is refused: %d", s, e)
	}
	return p
}

// written is the program of a text.
func written(t *testing.T, s string) api.Program {
	t.Helper()
	q, at, e := tree.Parse(s)
	if e != api.OK {
		t.Fatalf("the test's own program %q is refused: %d at %d", s, e, at)
	}
	return q
}

// plain is code with nil for each list that is empty, in memory of its own.
func plain(c api.Code) api.Code {
	d := api.Code{Arrays: append([]api.Cell(nil), c.Arrays...), Funcs: append([]api.Body(nil), c.Funcs...), Main: c.Main}
	for i, b := range d.Funcs {
		d.Funcs[i].Blocks = append([][]api.Op(nil), b.Blocks...)
		for j, l := range b.Blocks {
			l = append([]api.Op(nil), l...)
			for k, x := range l {
				l[k].Args, l[k].From = append([]int(nil), x.Args...), append([]int(nil), x.From...)
			}
			d.Funcs[i].Blocks[j] = l
		}
	}
	return d
}

// same: is code the same, a list that is not there being an empty one?
func same(c, d api.Code) bool { return reflect.DeepEqual(plain(c), plain(d)) }

// tidy is a program with nil for each list that is empty, in memory of its own.
func tidy(q api.Program) api.Program {
	list := func(l []string) []string { return append([]string(nil), l...) }
	r := api.Program{Arrays: append([]api.Array(nil), q.Arrays...), Funcs: append([]api.Func(nil), q.Funcs...)}
	for i, f := range r.Funcs {
		r.Funcs[i].Params, r.Funcs[i].Blocks = list(f.Params), append([]api.Block(nil), f.Blocks...)
		for j, b := range r.Funcs[i].Blocks {
			code := append([]api.Instr(nil), b.Code...)
			for k, x := range code {
				code[k].Args, code[k].From = list(x.Args), list(x.From)
			}
			r.Funcs[i].Blocks[j].Code = code
		}
	}
	return r
}

// found is a fault, and the key by which it counts among others: the least one counts.
type found struct {
	key []int
	at  int
	e   api.Errno
}

// faults is all that is wrong with a program, whatever else is.
type faults struct {
	p api.Policy
	q api.Program
	l []found
}

func (w *faults) add(is bool, e api.Errno, at int, key ...int) {
	if is {
		w.l = append(w.l, found{key, at, e})
	}
}

// find tells at which place the first of a name stands: -1, if none does.
func find[T any](l []T, name string, of func(T) string) int {
	return slices.IndexFunc(l, func(x T) bool { return of(x) == name })
}

func arrayName(a api.Array) string     { return a.Name }
func funcName(f api.Func) string       { return f.Name }
func blockName(b api.Block) string     { return b.Name }
func channelName(c api.Channel) string { return c.Name }

// defined are a function's values.
func defined(f api.Func) []string {
	l := slices.Clone(f.Params)
	for _, b := range f.Blocks {
		for _, x := range b.Code {
			if x.Dst != "" {
				l = append(l, x.Dst)
			}
		}
	}
	return l
}

// all finds all faults.
func (w *faults) all() {
	for i, a := range w.q.Arrays {
		w.add(find(w.q.Arrays[:i], a.Name, arrayName) >= 0, api.ErrTwice, a.At, 1, i, 0)
		w.add(!slices.Contains(w.p.Levels, a.Level), api.ErrName, a.At, 1, i, 1)
	}
	main := false
	for i, f := range w.q.Funcs {
		w.add(find(w.q.Funcs[:i], f.Name, funcName) >= 0, api.ErrTwice, f.At, 2, i)
		main = main || f.Name == "main" && len(f.Params) == 0
	}
	w.add(!main, api.ErrMain, 0, 3)
	for i, f := range w.q.Funcs {
		w.twice(i, f)
		for j, b := range f.Blocks {
			n := len(b.Code)
			w.add(n == 0 || b.Code[max(n-1, 0)].Kind < api.KJump, api.ErrEnd, b.At, 5, i, j, 0)
			for k, x := range b.Code {
				behind := slices.ContainsFunc(b.Code[:k], func(y api.Instr) bool { return y.Kind != api.KPhi })
				w.add(x.Kind >= api.KJump && k < n-1, api.ErrEnd, x.At, 5, i, j, 1, k, 1)
				w.add(x.Kind == api.KPhi && behind, api.ErrPhi, x.At, 5, i, j, 1, k, 2)
				w.add(w.unknown(f, x), api.ErrName, x.At, 5, i, j, 1, k, 3)
				to := find(w.q.Funcs, x.Ref, funcName)
				w.add(x.Kind == api.KCall && to >= 0 && len(x.Args) != len(w.q.Funcs[max(to, 0)].Params), api.ErrCount, x.At, 5, i, j, 1, k, 4)
			}
		}
	}
}

// twice finds which names of a function are there twice.
func (w *faults) twice(i int, f api.Func) {
	for k, s := range f.Params {
		w.add(slices.Contains(f.Params[:k], s), api.ErrTwice, f.At, 4, i, 0)
	}
	earlier := slices.Clone(f.Params)
	for j, b := range f.Blocks {
		w.add(find(f.Blocks[:j], b.Name, blockName) >= 0, api.ErrTwice, b.At, 4, i, 1, j)
		for k, x := range b.Code {
			w.add(x.Dst != "" && slices.Contains(earlier, x.Dst), api.ErrTwice, x.At, 4, i, 2, j, k)
			earlier = append(earlier, x.Dst)
		}
	}
}

// unknown: does an instruction name what is not there?
func (w *faults) unknown(f api.Func, x api.Instr) bool {
	for _, s := range x.Args {
		if !slices.Contains(defined(f), s) {
			return true
		}
	}
	for _, s := range x.From {
		if find(f.Blocks, s, blockName) < 0 {
			return true
		}
	}
	return w.ref(f, x) < 0 || x.Alt != "" && find(f.Blocks, x.Alt, blockName) < 0
}

// ref is the number of what Ref names: -1, if there is none.
func (w *faults) ref(f api.Func, x api.Instr) int {
	switch x.Kind {
	case api.KLoad, api.KWrap, api.KStore:
		return find(w.q.Arrays, x.Ref, arrayName)
	case api.KCall:
		return find(w.q.Funcs, x.Ref, funcName)
	case api.KInput:
		return find(w.p.Ins, x.Ref, channelName)
	case api.KOutput:
		return find(w.p.Outs, x.Ref, channelName)
	case api.KRelease:
		return slices.Index(w.p.Levels, x.Ref)
	case api.KJump, api.KBranch:
		return find(f.Blocks, x.Ref, blockName)
	}
	return 0
}

// resolved is what the chapter says of a policy and a program that may be.
func resolved(p api.Policy, q api.Program) (api.Code, int, api.Errno) {
	w := &faults{p: p, q: q}
	w.all()
	if len(w.l) > 0 {
		f := slices.MinFunc(w.l, func(a, b found) int { return slices.Compare(a.key, b.key) })
		return api.Code{}, f.at, f.e
	}
	c := api.Code{Main: find(q.Funcs, "main", funcName)}
	for _, a := range q.Arrays {
		c.Arrays = append(c.Arrays, api.Cell{Size: a.Size, Level: slices.Index(p.Levels, a.Level)})
	}
	for _, f := range q.Funcs {
		b := api.Body{Params: len(f.Params), Vars: len(defined(f))}
		for _, k := range f.Blocks {
			var l []api.Op
			for _, x := range k.Code {
				l = append(l, w.op(f, x))
			}
			b.Blocks = append(b.Blocks, l)
		}
		c.Funcs = append(c.Funcs, b)
	}
	return c, 0, api.OK
}

// op is an instruction in numbers.
func (w *faults) op(f api.Func, x api.Instr) api.Op {
	o := api.Op{Kind: x.Kind, Op: x.Op, Num: x.Num, At: x.At, Dst: slices.Index(defined(f), x.Dst), Ref: w.ref(f, x)}
	if x.Alt != "" {
		o.Alt = find(f.Blocks, x.Alt, blockName)
	}
	for _, s := range x.Args {
		o.Args = append(o.Args, slices.Index(defined(f), s))
	}
	for _, s := range x.From {
		o.From = append(o.From, find(f.Blocks, s, blockName))
	}
	return o
}

// check holds what is said of a policy and a program that may be against the chapter.
func check(t *testing.T, p api.Policy, q api.Program) api.Errno {
	t.Helper()
	before := tidy(q)
	want, wantAt, wantE := resolved(p, q)
	c, at, e := names.Resolve(p, q)
	if !same(c, want) || at != wantAt || e != wantE {
		s, _ := printer.Print(q)
		t.Fatalf("P9.1: of\n%s%v\nis told %v, %d at %d, want %v, %d at %d", s, q, c, e, at, want, wantE, wantAt)
	}
	if !reflect.DeepEqual(tidy(q), before) {
		t.Fatalf("R4: what was handed in is changed: %v, was %v", q, before)
	}
	if e == api.OK && !names.Right(p, c) {
		t.Fatalf("P9.2: Right(%v) = false", c)
	}
	return e
}

func TestExamples(t *testing.T) {
	p := setting(t, setup)
	c, at, e := names.Resolve(p, written(t, "fn main() { a: x = const 7 return x }"))
	want := api.Code{Funcs: []api.Body{{Vars: 1, Blocks: [][]api.Op{{
		{Kind: api.KConst, Num: 7, At: 15}, {Kind: api.KReturn, Dst: -1, Args: []int{0}, At: 27},
	}}}}}
	if !same(c, want) || at != 0 || e != api.OK {
		t.Errorf("P9.1: %v, %d at %d, want %v", c, e, at, want)
	}
	for s, want := range map[string]api.Op{
		"y = mul x a":            {Kind: api.KBin, Op: api.OpMul, Dst: 3, Args: []int{2, 0}},
		"y = less b b":           {Kind: api.KBin, Op: api.OpLess, Dst: 3, Args: []int{1, 1}},
		"y = const -9":           {Kind: api.KConst, Dst: 3, Num: -9},
		"y = load u a":           {Kind: api.KLoad, Dst: 3, Ref: 1, Args: []int{0}},
		"y = wrap t y":           {Kind: api.KWrap, Dst: 3, Args: []int{3}},
		"store u a b":            {Kind: api.KStore, Dst: -1, Ref: 1, Args: []int{0, 1}},
		"y = call g(b, a)":       {Kind: api.KCall, Dst: 3, Ref: 2, Args: []int{1, 0}},
		"y = call main()":        {Kind: api.KCall, Dst: 3, Ref: 1},
		"y = input net":          {Kind: api.KInput, Dst: 3, Ref: 1},
		"output net x":           {Kind: api.KOutput, Dst: -1, Args: []int{2}},
		"output vault x":         {Kind: api.KOutput, Dst: -1, Ref: 1, Args: []int{2}},
		"y = release x high":     {Kind: api.KRelease, Dst: 3, Ref: 1, Args: []int{2}},
		"return a } fn q() { c:": {Kind: api.KReturn, Dst: -1, Args: []int{0}},
		"jump d d:":              {Kind: api.KJump, Dst: -1, Ref: 1},
		"branch x d c d:":        {Kind: api.KBranch, Dst: -1, Ref: 1, Args: []int{2}},
		"branch x c d d:":        {Kind: api.KBranch, Dst: -1, Alt: 1, Args: []int{2}},
	} {
		ahead := "array t 1 low array u 2 high fn g2(a, b) { c: x = const 0 "
		q := written(t, ahead+s+" jump c } fn main() { a: jump a } fn g(a, b) { a: jump a }")
		want.At = len(ahead)
		c, at, e := names.Resolve(p, q)
		if e != api.OK || !reflect.DeepEqual(one(c.Funcs[0].Blocks[0][1]), one(want)) {
			t.Errorf("P9.1: %q is %v, %d at %d, want %v", s, c, e, at, want)
		}
		check(t, p, q)
	}
}

// one is code of an instruction, with nil for each list of it that is empty.
func one(x api.Op) api.Code {
	return plain(api.Code{Funcs: []api.Body{{Blocks: [][]api.Op{{x}}}}})
}

// A text in which a byte | stands where the fault is told, and the error that counts. (What stands behind the fault is wrong, too.)
func TestFaults(t *testing.T) {
	p := setting(t, setup)
	for _, c := range []struct {
		s string
		e api.Errno
	}{
		{"fn main() { a: |return x }", api.ErrName},
		{"|fn f(x) { a: return x }", api.ErrMain},
		{"|fn main(x) { a: return x }", api.ErrMain},
		{"|", api.ErrMain},
		{"|  array t 1 low  ", api.ErrMain},
		{"|  fn Main() { a: x = const 1 return x } ", api.ErrMain},
		// Arrays, whatever functions are wrong.
		{"fn f() { a: } fn f() { a: a: } array t 1 low |array t 1 nope array u 1 nope", api.ErrTwice},
		{"array t 1 low |array u 1 nope array t 1 low", api.ErrName},
		{"|array t 1 net", api.ErrName},
		{"fn main(x) { a: } |array t 1 key", api.ErrName},
		{"array main 1 low array low 1 low fn low() { low: low = const 1 return low } fn main() { main: main = call low() return main |b: }", api.ErrEnd},
		// Functions.
		{"fn f(x, x) { a: a: } |fn f() { a: } fn f() { a: }", api.ErrTwice},
		{"fn main(x) { a: return x } |fn main() { a: x = const 1 return x }", api.ErrTwice},
		{"fn main() { a: x = const 1 return x } |fn main(x) { a: return x }", api.ErrTwice},
		{"|# \n fn f(x, x) { a: return x } fn main(x) { a: return x }", api.ErrMain},
		// Names within functions, all of them ahead of what is wrong with blocks and instructions.
		{"fn main() { a: x = phi [b: y] } |fn f(x, x) { a: x = const 1 a: return x }", api.ErrTwice},
		{"fn main() { a: } fn f(x) { b: x = const 1 |b: return y }", api.ErrTwice},
		{"fn main() { a: } fn f(x) { b: |x = const 1 c: return y }", api.ErrTwice},
		{"fn main() { a: } fn f(z) { b: x = const 1 c: |x = const 1 jump q x = const 2 }", api.ErrTwice},
		{"fn main() { a: |a: x = const 1 x = const 2 a: }", api.ErrTwice},
		{"fn main() { a: x = const 1 |x = input none }", api.ErrTwice},
		{"fn main() { a: x = const 1 b: |x = const 1 c: } fn f(x, y, x) { a: }", api.ErrTwice},
		{"fn main() { a: } fn f(x, y) { a: } |fn g(x, y, z, y) { a: }", api.ErrTwice},
		{"fn main() { a: } fn f(x) { a: } fn g(y) { x: |y = const 1 } fn h(x, x) { x: }", api.ErrTwice},
		// One name of several kinds, and in several functions, is there once.
		{"fn main() { main: f = const 1 |return main } fn f(f) { f: main = const 1 return f }", api.ErrName},
		{"fn main() { a: x = const 1 return x } fn f(x) { a: y = const 1 return y } fn g(x, y) { a: |jump x }", api.ErrName},
		// Blocks.
		{"fn main() { |a: }", api.ErrEnd},
		{"fn main() { |a: x = const 1 }", api.ErrEnd},
		{"fn main() { |a: jump q x = const 1 }", api.ErrEnd},
		{"fn main() { a: |jump a jump q }", api.ErrEnd},
		{"fn main() { a: x = const 1 |branch x a a return x }", api.ErrEnd},
		{"fn main() { a: x = const 1 |return x y = phi [a: x] jump a }", api.ErrEnd},
		{"fn main() { a: x = const 1 |return y jump a }", api.ErrEnd},
		{"fn main() { a: |jump b return y b: }", api.ErrEnd},
		{"fn main() { a: jump b |b: } fn f() { a: }", api.ErrEnd},
		{"fn main() { a: |jump q b: }", api.ErrName},
		{"fn main() { a: jump a } fn f() { |a: output none x }", api.ErrEnd},
		// Phis.
		{"fn main() { a: x = const 1 |y = phi [a: x] return x }", api.ErrPhi},
		{"fn main() { a: x = const 1 |y = phi [b: z] return x }", api.ErrPhi},
		{"fn main() { a: x = phi [a: x] y = phi [a: x, a: y] z = const 1 |w = phi [a: x] v = phi [a: x] jump a }", api.ErrPhi},
		{"fn main() { a: x = phi [a: y] |y = phi [a: x, b: x] jump a }", api.ErrName},
		{"fn main() { a: x = const 1 jump b b: y = phi [a: x, b: y] |z = phi [a: x, b: w] return y }", api.ErrName},
		// Names.
		{"fn main() { a: |x = load t x jump a }", api.ErrName},
		{"array t 1 low fn main() { a: x = load t x |y = wrap low x jump a }", api.ErrName},
		{"array t 1 low fn main() { a: x = load t x |store u x x jump a }", api.ErrName},
		{"array t 1 low fn main() { a: x = load t x |store t y x jump a }", api.ErrName},
		{"array t 1 low fn main() { a: x = load t x |store t x y jump a }", api.ErrName},
		{"fn main() { a: x = call main() |y = call main2() jump a }", api.ErrName},
		{"fn main() { a: |x = call f(y) jump a } fn f(y) { a: jump a }", api.ErrName},
		{"fn main() { a: |x = call f(y, x) jump a } fn f(y) { a: jump a }", api.ErrName},
		{"fn main() { a: x = input net |y = input vault jump a }", api.ErrName},
		{"fn main() { a: x = input key |output key x jump a }", api.ErrName},
		{"fn main() { a: x = input key |output net y jump a }", api.ErrName},
		{"fn main() { a: x = input key |y = release x net jump a }", api.ErrName},
		{"fn main() { a: x = input key |y = release high high jump a }", api.ErrName},
		{"fn main() { a: |jump b } fn f() { b: jump b }", api.ErrName},
		{"fn main() { a: x = input key |branch x b a }", api.ErrName},
		{"fn main() { a: x = input key |branch x a b }", api.ErrName},
		{"fn main() { a: x = input key |branch y a a }", api.ErrName},
		{"fn main() { a: |return a }", api.ErrName},
		{"fn main() { a: |x = add y x jump a }", api.ErrName},
		{"fn main() { a: |x = add x y jump a }", api.ErrName},
		{"fn main() { a: |return x } fn f(x) { a: return x }", api.ErrName},
		// Numbers of arguments.
		{"fn main() { a: |x = call main(x) jump a }", api.ErrCount},
		{"fn main() { a: |x = call f() jump q } fn f(x) { a: }", api.ErrCount},
		{"fn main() { a: x = call f(x, x) |y = call f(x, x, y) jump a } fn f(x, y) { a: jump a }", api.ErrCount},
		{"fn f(x, y) { a: |z = call f(x) jump q } fn main() { a: }", api.ErrCount},
	} {
		at := strings.Index(c.s, "|")
		q := written(t, c.s[:at]+c.s[at+1:])
		if _, got, e := names.Resolve(p, q); got != at || e != c.e {
			t.Errorf("P9.1: %q: %d at %d, want %d", c.s, e, got, c.e)
		}
		check(t, p, q)
	}
}

func TestWhatMayBeUsedAnywhere(t *testing.T) {
	p := setting(t, setup)
	for _, s := range []string{
		// Whether a value is there where it is used is another layer's.
		"fn main() { a: y = add x y x = add x y branch x b c b: z = phi [c: w, c: w, q: x] jump a c: w = const 1 jump q q: return z }",
		"fn main() { a: jump a b: jump c c: jump a }",
		"fn main() { a: x = call main() return x }",
		"fn f(a, b, c, d, e, g) { a: x = call f(a, a, x, d, e, g) return x } fn main() { main: f = const 1 return f }",
		"array low 1 high array high 256 low fn low(low) { low: high = load high low jump low } fn main() { a: jump a }",
		"fn main() { a: x = const 1 y = call g(x) return y } fn g(x) { a: y = call h() return y } fn h() { a: x = call main() return x }",
	} {
		if e := check(t, p, written(t, s)); e != api.OK {
			t.Errorf("P9.1: %q: %d", s, e)
		}
	}
}

func TestAts(t *testing.T) {
	p := setting(t, setup)
	for _, at := range []int{0, -1, 5, math.MaxInt, math.MinInt} {
		q := written(t, "array t 1 low array t 1 nope fn main() { a: x = const 1 return x }")
		q.Arrays[1].At = at
		if _, got, e := names.Resolve(p, q); e != api.ErrTwice || got != at {
			t.Errorf("P9.1: %d at %d, want %d", e, got, at)
		}
		q.Arrays = nil
		q.Funcs[0].At, q.Funcs[0].Blocks[0].At, q.Funcs[0].Blocks[0].Code[0].At = 99, 98, at
		if c, _, e := names.Resolve(p, q); e != api.OK || c.Funcs[0].Blocks[0][0].At != at || !names.Right(p, c) {
			t.Errorf("P9.1: %v, %d, want the place %d", c, e, at)
		}
		q.Funcs[0].Blocks[0].Code[1].Args[0], q.Funcs[0].Blocks[0].Code[1].At = "y", at
		if _, got, e := names.Resolve(p, q); e != api.ErrName || got != at {
			t.Errorf("P9.1: %d at %d, want %d", e, got, at)
		}
	}
}

func TestWhatMayNotBe(t *testing.T) {
	p := setting(t, setup)
	right := "fn main() { a: x = const 1 return x }"
	none := func(p api.Policy, q api.Program) {
		t.Helper()
		if c, at, e := names.Resolve(p, q); !same(c, api.Code{}) || at != 0 || e != api.ErrArg {
			t.Errorf("P9.1: of %v and %v: %v, %d at %d, want ErrArg", p, q, c, e, at)
		}
	}
	for _, spoil := range []func(p *api.Policy){
		func(p *api.Policy) { *p = api.Policy{} },
		func(p *api.Policy) { p.Depth = 0 },
		func(p *api.Policy) { p.Up = p.Up[:1] },
		func(p *api.Policy) { p.Up[0] = 1 },
		func(p *api.Policy) { p.Levels[1] = "low" },
		func(p *api.Policy) { p.Ins[1].Name = "add" },
		func(p *api.Policy) { p.Outs[1].Level = 2 },
	} {
		bad := setting(t, setup)
		spoil(&bad)
		for _, s := range []string{right, "", "fn main() { a: return x }", "array t 1 nope"} {
			none(bad, written(t, s))
		}
		none(bad, api.Program{Funcs: []api.Func{{}}})
	}
	for _, spoil := range []func(q *api.Program){
		func(q *api.Program) { q.Funcs[0].Name = "" },
		func(q *api.Program) { q.Funcs[0].Name = "fn" },
		func(q *api.Program) { q.Funcs[0].Blocks = nil },
		func(q *api.Program) { q.Funcs[0].Params = slices.Repeat([]string{"x"}, 7) },
		func(q *api.Program) { q.Funcs[0].Blocks[0].Name = "1" },
		func(q *api.Program) { q.Funcs[0].Blocks[0].Code[0].Kind = 0 },
		func(q *api.Program) { q.Funcs[0].Blocks[0].Code[0].Kind = 14 },
		func(q *api.Program) { q.Funcs[0].Blocks[0].Code[0].Kind = 255 },
		func(q *api.Program) { q.Funcs[0].Blocks[0].Code[0].Op = 1 },
		func(q *api.Program) { q.Funcs[0].Blocks[0].Code[0].Dst = "" },
		func(q *api.Program) { q.Funcs[0].Blocks[0].Code[1].Dst = "y" },
		func(q *api.Program) { q.Funcs[0].Blocks[0].Code[1].Ref = "a" },
		func(q *api.Program) { q.Funcs[0].Blocks[0].Code[1].Args = nil },
		func(q *api.Program) { q.Arrays = []api.Array{{Name: "t", Size: 257, Level: "low"}} },
		func(q *api.Program) { q.Arrays = make([]api.Array, 17) },
		func(q *api.Program) { q.Funcs = slices.Repeat(q.Funcs, 65) },
	} {
		for _, s := range []string{right, right + " fn main() { a: } fn f(x, x) { a: }", "fn f() { a: x = const 1 return q }"} {
			q := written(t, s)
			spoil(&q)
			none(p, q)
			none(api.Policy{}, q)
		}
	}
}

// maker makes programs by chance.
type maker struct {
	*rand.Rand
}

func (m maker) of(l ...string) string { return l[m.Intn(len(l))] }

func (m maker) value() string { return m.of("a", "b", "x", "y", "z", "u", "v") }

func (m maker) values(n int) []string {
	l := make([]string, 0, n+m.Intn(3))
	for range n {
		l = append(l, m.value())
	}
	return l
}

// instr is an instruction of any kind but a phi and an end.
func (m maker) instr() api.Instr {
	x := api.Instr{Dst: m.value()}
	switch x.Kind = []uint8{1, 2, 4, 5, 6, 7, 8, 9, 10}[m.Intn(9)]; x.Kind {
	case api.KConst:
		x.Num = m.Int63() - m.Int63()
	case api.KBin:
		x.Op, x.Args = uint8(1+m.Intn(12)), m.values(2)
	case api.KLoad, api.KWrap:
		x.Ref, x.Args = m.of("s", "t"), m.values(1)
	case api.KStore:
		x.Dst, x.Ref, x.Args = "", m.of("s", "t"), m.values(2)
	case api.KCall:
		x.Ref = m.of("main", "f", "g")
		x.Args = m.values(strings.Index("fg", x.Ref[:1]) + 1)
	case api.KInput:
		x.Ref = m.of("key", "net")
	case api.KOutput:
		x.Dst, x.Ref, x.Args = "", m.of("net", "vault"), m.values(1)
	case api.KRelease:
		x.Ref, x.Args = m.of("low", "high"), m.values(1)
	}
	return x
}

// phi is a phi of a function of n blocks.
func (m maker) phi(n int) api.Instr {
	x := api.Instr{Kind: api.KPhi, Dst: m.value()}
	for range 1 + m.Intn(3) {
		x.From, x.Args = append(x.From, "k"+strconv.Itoa(m.Intn(n))), append(x.Args, m.value())
	}
	return x
}

// end is an end of a block of a function of n blocks.
func (m maker) end(n int) api.Instr {
	x := api.Instr{Kind: api.KJump, Ref: "k" + strconv.Itoa(m.Intn(n))}
	switch m.Intn(3) {
	case 0:
		x.Kind, x.Alt, x.Args = api.KBranch, "k"+strconv.Itoa(m.Intn(n)), m.values(1)
	case 1:
		x = api.Instr{Kind: api.KReturn, Args: m.values(1)}
	}
	return x
}

// function is a function that has every value by the end of its first block.
func (m maker) function(name string, params int) api.Func {
	f := api.Func{Name: name, Params: []string{"a", "b"}[:params], At: m.Intn(1000)}
	n := 1 + m.Intn(3)
	for i := range n {
		b := api.Block{Name: "k" + strconv.Itoa(i), At: m.Intn(1000)}
		for range m.Intn(3) {
			b.Code = append(b.Code, m.phi(n))
		}
		for range m.Intn(4) {
			b.Code = append(b.Code, m.instr())
		}
		f.Blocks = append(f.Blocks, b)
	}
	names := []string{"a", "b", "x", "y", "z", "u", "v"}[params:]
	m.Shuffle(len(names), func(i, j int) { names[i], names[j] = names[j], names[i] })
	// Each value is defined once: what is too much is renamed, what is not there is defined by consts.
	next := 0
	for i := range f.Blocks {
		b := &f.Blocks[i]
		for k := range b.Code {
			if b.Code[k].Dst != "" && next < len(names) {
				b.Code[k].Dst = names[next]
				next++
			} else if b.Code[k].Dst != "" {
				b.Code[k].Dst = "w" + strconv.Itoa(i) + "_" + strconv.Itoa(k)
			}
		}
		for i == n-1 && next < len(names) {
			b.Code = append(b.Code, api.Instr{Kind: api.KConst, Dst: names[next]})
			next++
		}
		b.Code = append(b.Code, m.end(n))
		for k := range b.Code {
			b.Code[k].At = m.Intn(1000)
		}
	}
	return f
}

// program is a program without a fault.
func (m maker) program() api.Program {
	q := api.Program{Arrays: []api.Array{
		{Name: "s", Size: 1 + m.Intn(256), Level: m.of("low", "high"), At: m.Intn(1000)},
		{Name: "t", Size: 1 + m.Intn(256), Level: m.of("low", "high"), At: m.Intn(1000)},
	}}
	q.Funcs = []api.Func{m.function("main", 0), m.function("f", 1), m.function("g", 2)}
	m.Shuffle(3, func(i, j int) { q.Funcs[i], q.Funcs[j] = q.Funcs[j], q.Funcs[i] })
	return q
}

// spoil does something to a program after which it is still one.
func (m maker) spoil(q *api.Program) {
	f := &q.Funcs[m.Intn(len(q.Funcs))]
	b := &f.Blocks[m.Intn(len(f.Blocks))]
	name := m.of("a", "b", "x", "w0_1", "main", "f", "s", "t", "k0", "k1", "k9", "low", "net", "key", "none")
	switch m.Intn(11) {
	case 0:
		if len(q.Arrays) > 0 {
			*[]*string{&q.Arrays[0].Name, &q.Arrays[0].Level, &q.Arrays[len(q.Arrays)-1].Name}[m.Intn(3)] = name
		}
	case 1:
		q.Arrays = q.Arrays[:m.Intn(len(q.Arrays)+1)]
	case 2:
		f.Name = name
	case 3:
		f.Params = append(slices.Clone(f.Params), name)
	case 4:
		b.Name = m.of("k0", "k1", name)
	case 5:
		b.Code = b.Code[:m.Intn(len(b.Code)+1)]
	case 6:
		m.Shuffle(len(b.Code), func(i, j int) { b.Code[i], b.Code[j] = b.Code[j], b.Code[i] })
	case 7:
		b.Code = append(b.Code, []api.Instr{m.instr(), m.phi(3), m.end(3)}[m.Intn(3)])
	default:
		if len(b.Code) > 0 {
			m.rename(&b.Code[m.Intn(len(b.Code))], name)
		}
	}
}

// rename gives a name of an instruction, or a list's, for another one.
func (m maker) rename(x *api.Instr, name string) {
	var l []*string
	for _, s := range []*string{&x.Dst, &x.Ref, &x.Alt} {
		if *s != "" {
			l = append(l, s)
		}
	}
	for i := range x.Args {
		l = append(l, &x.Args[i])
	}
	for i := range x.From {
		l = append(l, &x.From[i])
	}
	*l[m.Intn(len(l))] = name
	if x.Kind == api.KCall && m.Intn(3) == 0 {
		x.Args = m.values(m.Intn(4))
	}
}

func TestProgramsByChance(t *testing.T) {
	p, m := setting(t, setup), maker{rand.New(rand.NewSource(15))}
	got := map[api.Errno]int{}
	for range 12000 {
		q := m.program()
		if e := check(t, p, q); e != api.OK {
			t.Fatalf("the test's own program %v has the fault %d", q, e)
		}
		for range 1 + m.Intn(4) {
			m.spoil(&q)
			got[check(t, p, q)]++
		}
	}
	for _, e := range []api.Errno{api.OK, api.ErrTwice, api.ErrName, api.ErrMain, api.ErrEnd, api.ErrPhi, api.ErrCount} {
		if got[e] < 200 {
			t.Errorf("the test's own programs have the fault %d but %d times: %v", e, got[e], got)
		}
	}
}

// great is a policy of as many levels and channels as may be.
func great(t *testing.T) api.Policy {
	t.Helper()
	var b strings.Builder
	for i := range 64 {
		b.WriteString("level l" + strconv.Itoa(i) + "\n")
		if i > 0 {
			b.WriteString("flow l" + strconv.Itoa(i-1) + " l" + strconv.Itoa(i) + "\n")
		}
	}
	for i := range 32 {
		b.WriteString("input c" + strconv.Itoa(i) + " l63\noutput c" + strconv.Itoa(31-i) + " l0\n")
	}
	return setting(t, b.String()+"depth 64")
}

// whole is a program of as many things as may be.
func whole() api.Program {
	var q api.Program
	for i := range 16 {
		q.Arrays = append(q.Arrays, api.Array{Name: "t" + strconv.Itoa(i), Size: 256, Level: "l" + strconv.Itoa(63-i)})
	}
	for i := range 64 {
		f := api.Func{Name: "f" + strconv.Itoa(63-i), Params: []string{"a", "b", "c", "d", "e", "g"}}
		if i == 63 {
			f = api.Func{Name: "main"}
		}
		for j := range 32 {
			n := strconv.Itoa(i*32 + j)
			x := []api.Instr{
				{Kind: api.KInput, Ref: "c" + strconv.Itoa(j)}, {Kind: api.KRelease, Ref: "l" + strconv.Itoa(j), Args: []string{"v" + n}},
				{Kind: api.KLoad, Ref: "t" + strconv.Itoa(j%16), Args: []string{"v" + strconv.Itoa(i*32)}}, {Kind: api.KConst, Num: math.MinInt64},
			}[(i+j)%4]
			x.Dst, x.At = "v"+n, 7*j
			f.Blocks = append(f.Blocks, api.Block{Name: "b" + n, Code: []api.Instr{x, {Kind: api.KJump, Ref: "b" + strconv.Itoa(i*32+31-j), At: -j}}})
		}
		q.Funcs = append(q.Funcs, f)
	}
	return q
}

func TestTheGreatest(t *testing.T) {
	p, q := great(t), whole()
	if e := check(t, p, q); e != api.OK {
		t.Fatalf("the test's own program has the fault %d", e)
	}
	// The last of each is still found, and missed.
	q.Arrays[15].Name = "t0"
	if e := check(t, p, q); e != api.ErrTwice {
		t.Errorf("P9.1: %d, want ErrTwice", e)
	}
	q = whole()
	q.Funcs[63].Name = "f63"
	if e := check(t, p, q); e != api.ErrTwice {
		t.Errorf("P9.1: %d, want ErrTwice", e)
	}
	q = whole()
	q.Funcs[62].Params[5] = "a"
	if e := check(t, p, q); e != api.ErrTwice {
		t.Errorf("P9.1: %d, want ErrTwice", e)
	}
	q = whole()
	q.Funcs[63].Blocks[31].Code[1].Ref = "b0"
	if e := check(t, p, q); e != api.ErrName {
		t.Errorf("P9.1: %d, want ErrName", e)
	}
	if _, _, e := names.Resolve(setting(t, setup), whole()); e != api.ErrName {
		t.Errorf("P9.1: of another policy: %d, want ErrName", e)
	}
}

func TestAFunctionOfAllInstructions(t *testing.T) {
	p := setting(t, setup)
	var f api.Func
	f.Name = "main"
	for j := range 64 {
		b := api.Block{Name: "b" + strconv.Itoa(j)}
		phi := api.Instr{Kind: api.KPhi}
		for i := range 64 {
			phi.From, phi.Args = append(phi.From, "b"+strconv.Itoa(63-i)), append(phi.Args, "v"+strconv.Itoa(i*j))
		}
		for i := range 63 {
			phi.Dst = "v" + strconv.Itoa(j*63+i)
			b.Code = append(b.Code, phi)
		}
		b.Code = append(b.Code, api.Instr{Kind: api.KBranch, Ref: "b" + strconv.Itoa(63-j), Alt: "b" + strconv.Itoa(j), Args: []string{"v4031"}})
		f.Blocks = append(f.Blocks, b)
	}
	q := api.Program{Funcs: []api.Func{f}}
	c, at, e := names.Resolve(p, q)
	if e != api.OK || c.Funcs[0].Vars != 4032 || c.Funcs[0].Blocks[63][62].Dst != 4031 || !names.Right(p, c) {
		t.Fatalf("P9.1: %d at %d", e, at)
	}
	back, e := names.Raise(p, c)
	again, _, f2 := names.Resolve(p, back)
	if e != api.OK || f2 != api.OK || !same(again, c) {
		t.Errorf("P9.2: %d, %d", e, f2)
	}
	q.Funcs = append(q.Funcs, api.Func{Name: "f", Blocks: []api.Block{{Name: "a", Code: []api.Instr{{Kind: api.KJump, Ref: "a"}}}}})
	if _, at, e := names.Resolve(p, q); e != api.ErrArg || at != 0 {
		t.Errorf("P9.1: of one instruction too many: %d at %d", e, at)
	}
}

// lists are all lists of code, those of its instructions' numbers.
func lists(c api.Code) [][]int {
	var l [][]int
	for _, b := range c.Funcs {
		for _, code := range b.Blocks {
			for _, x := range code[:cap(code)] {
				l = append(l, x.Args, x.From)
			}
		}
	}
	return l
}

func TestWhatIsHandedInAndOut(t *testing.T) {
	p, m := setting(t, setup), maker{rand.New(rand.NewSource(16))}
	for range 200 {
		q := m.program()
		first, _, _ := names.Resolve(p, q)
		second, _, _ := names.Resolve(p, q)
		want, _, _ := resolved(p, q)
		l := lists(first)
		for i := range l {
			for k := range l[i][:cap(l[i])] {
				l[i][:cap(l[i])][k] = 1000 + i
			}
		}
		for i := range l {
			if slices.ContainsFunc(l[i][:cap(l[i])], func(n int) bool { return n != 1000+i }) {
				t.Fatal("R4: lists of one answer share memory")
			}
		}
		for i := range first.Funcs {
			for j, code := range first.Funcs[i].Blocks {
				clear(code[:cap(code)])
				first.Funcs[i].Blocks[j] = nil
			}
			first.Funcs[i] = api.Body{}
		}
		clear(first.Arrays)
		if !same(second, want) {
			t.Fatal("R4: two answers share memory")
		}
		for i := range q.Funcs {
			for _, b := range q.Funcs[i].Blocks {
				clear(b.Code)
			}
			clear(q.Funcs[i].Blocks)
		}
		clear(q.Arrays)
		if !same(second, want) {
			t.Fatal("R4: what is handed out shares memory with what is handed in")
		}
	}
}

func TestNothingIsWrittenBehindLists(t *testing.T) {
	p := setting(t, setup)
	room := func(l ...string) []string { return append(l, "kept", "kept")[:len(l)] }
	q := written(t, "fn main() { a: x = const 1 y = call f(x, x) return y } fn f(x, y) { a: z = phi [a: x, b: y] jump a b: jump b }")
	x, y := &q.Funcs[0].Blocks[0].Code[1], &q.Funcs[1].Blocks[0].Code[0]
	x.Args, y.Args, y.From, q.Funcs[1].Params = room(x.Args...), room(y.Args...), room(y.From...), room("x", "y")
	keep := api.Instr{Kind: api.KJump, Ref: "kept"}
	b := &q.Funcs[1].Blocks[1]
	b.Code = append(b.Code, keep, keep)[:1]
	q.Funcs = append(q.Funcs, api.Func{Name: "kept"})[:2]
	if e := check(t, p, q); e != api.OK {
		t.Fatalf("P9.1: %d", e)
	}
	for _, l := range [][]string{x.Args, y.Args, y.From, q.Funcs[1].Params} {
		if behind := l[len(l) : len(l)+2]; behind[0] != "kept" || behind[1] != "kept" {
			t.Errorf("R4: behind %q stands %q", l, behind)
		}
	}
	if !reflect.DeepEqual(b.Code[1:3], []api.Instr{keep, keep}) || q.Funcs[:3][2].Name != "kept" {
		t.Error("R4: something is written behind a list")
	}
}

func TestTheLeastFaultOfSeveral(t *testing.T) {
	p := setting(t, setup)
	// Two faults of each two kinds, each in a function of its own, in both orders.
	wrong := []string{"a: |return x", "|a:", "a: |jump a jump a", "a: x = const 1 |y = phi [a: x] return x", "a: |y = call f() return y"}
	for _, one := range wrong {
		for _, two := range wrong {
			s := "fn main() { " + one + " } fn f(z) { " + two + " }"
			at := strings.Index(s, "|")
			q := written(t, strings.ReplaceAll(s, "|", ""))
			if _, got, e := names.Resolve(p, q); e == api.OK || got != at {
				t.Errorf("P9.1: %q: %d at %d", s, e, got)
			}
			check(t, p, q)
		}
	}
}
