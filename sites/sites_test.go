package sites_test

import (
	"math"
	"math/rand"
	"reflect"
	"slices"
	"testing"

	"interdict/api"
	"interdict/names"
	"interdict/policy"
	"interdict/sites"
	"interdict/ssa"
	"interdict/tree"
)

const setup = "level low\nlevel high\nflow low high\ninput key high\ninput net low\noutput net low\noutput vault high\ndepth 8"

// setting is the policy of a text.
func setting(t *testing.T, s string) api.Policy {
	t.Helper()
	p, _, e := policy.Parse(s)
	if e != api.OK {
		t.Fatalf("the test's own policy %q is refused: %d", s, e)
	}
	return p
}

// code is that of a program's text.
func code(t *testing.T, p api.Policy, s string) api.Code {
	t.Helper()
	q, at, e := tree.Parse(s)
	if e != api.OK {
		t.Fatalf("the test's own program %q is refused: %d at %d", s, e, at)
	}
	c, at, e := names.Resolve(p, q)
	if e != api.OK {
		t.Fatalf("the test's own program %q has a wrong name: %d at %d", s, e, at)
	}
	return c
}

// plain is code with nil for each list that is empty, in memory of its own.
func plain(c api.Code) api.Code {
	d := api.Code{Arrays: append([]api.Cell(nil), c.Arrays...), Funcs: append([]api.Body(nil), c.Funcs...), Main: c.Main}
	for i, b := range d.Funcs {
		d.Funcs[i].Blocks = append([][]api.Op(nil), b.Blocks...)
		for j, l := range b.Blocks {
			l = append([]api.Op(nil), l...)
			for k, x := range l {
				l[k].Args, l[k].From = append([]int(nil), x.Args...), append([]int(nil), x.From...)
			}
			d.Funcs[i].Blocks[j] = l
		}
	}
	return d
}

// definer is the instruction that defines a value, one without a kind of a parameter.
func definer(b api.Body, value int) api.Op {
	for _, l := range b.Blocks {
		for _, x := range l {
			if x.Dst == value {
				return x
			}
		}
	}
	return api.Op{}
}

// divides: is it div or mod?
func divides(x api.Op) bool {
	return x.Kind == api.KBin && (x.Op == api.OpDiv || x.Op == api.OpMod)
}

// indexes: does it load or store?
func indexes(x api.Op) bool { return x.Kind == api.KLoad || x.Kind == api.KStore }

// safe tells it of an instruction that divides, loads or stores, as the chapter does.
func safe(c api.Code, b api.Body, x api.Op) bool {
	if divides(x) {
		by := definer(b, x.Args[1])
		return by.Kind == api.KConst && by.Num != 0
	}
	by, size := definer(b, x.Args[0]), int64(c.Arrays[x.Ref].Size)
	return by.Kind == api.KConst && 0 <= by.Num && by.Num < size ||
		by.Kind == api.KWrap && int64(c.Arrays[by.Ref].Size) <= size
}

// all are all sites of code without a fault.
func all(c api.Code) []sites.Site {
	var l []sites.Site
	for i, b := range c.Funcs {
		for j := range b.Blocks {
			for k, x := range b.Blocks[j] {
				if divides(x) && !safe(c, b, x) {
					l = append(l, sites.Site{Fn: i, Block: j, Place: k, Kind: api.ErrZero, Value: x.Args[1]})
				}
				if indexes(x) && !safe(c, b, x) {
					l = append(l, sites.Site{Fn: i, Block: j, Place: k, Kind: api.ErrIndex, Value: x.Args[0]})
				}
			}
		}
	}
	return l
}

// is: is there a site at an instruction?
func is(l []sites.Site, fn, block, place int) bool {
	return slices.ContainsFunc(l, func(s sites.Site) bool { return s.Fn == fn && s.Block == block && s.Place == place })
}

// check holds what is said of a policy and code against the chapter.
func check(t *testing.T, p api.Policy, c api.Code) []sites.Site {
	t.Helper()
	before := plain(c)
	right := ssa.Right(p, c)
	var want []sites.Site
	wantE := api.ErrArg
	if right {
		want, wantE = all(c), api.OK
	}
	got, e := sites.All(p, c)
	if e != wantE || !slices.Equal(got, want) {
		t.Fatalf("P14.1: All(%v) = %v, %d, want %v, %d", c, got, e, want, wantE)
	}
	for fn := -1; fn <= len(c.Funcs); fn++ {
		var blocks [][]api.Op
		if fn >= 0 && fn < len(c.Funcs) {
			blocks = c.Funcs[fn].Blocks
		}
		for block := -1; block <= len(blocks); block++ {
			n := 0
			if block >= 0 && block < len(blocks) {
				n = len(blocks[block])
			}
			for place := -1; place <= n; place++ {
				w := right && place >= 0 && place < n && !is(want, fn, block, place)
				if sites.Safe(p, c, fn, block, place) != w {
					t.Fatalf("P14.2: Safe(%v, %d, %d, %d) = %v", c, fn, block, place, !w)
				}
			}
		}
	}
	for i := range got {
		got[i] = sites.Site{Fn: 99}
	}
	if again, _ := sites.All(p, c); !slices.Equal(again, want) {
		t.Fatalf("R4: a later answer is changed: All(%v) = %v, want %v", c, again, want)
	}
	if !reflect.DeepEqual(plain(c), before) {
		t.Fatalf("R4: what was handed in is changed: %v, was %v", c, before)
	}
	return want
}

const (
	zero  = api.ErrZero
	index = api.ErrIndex
)

func TestSites(t *testing.T) {
	p := setting(t, setup)
	for _, c := range []struct {
		text string
		want []sites.Site
	}{
		{"fn main() { a: x = const 7 return x }", nil},
		// The chapter's examples.
		{"fn main() { a: x = input net y = div x x return y }", []sites.Site{{0, 0, 1, zero, 0}}},
		{"fn main() { a: x = input net z = const 2 y = div x z return y }", nil},
		{"array t 4 low fn main() { a: x = input net i = wrap t x y = load t i return y }", nil},
		// Divisions: by a const, by 0, by what is no const; the dividend does not count.
		{"fn main() { a: x = input net z = const 0 y = div x z return y }", []sites.Site{{0, 0, 2, zero, 1}}},
		{"fn main() { a: x = input net z = const 0 y = mod x z return y }", []sites.Site{{0, 0, 2, zero, 1}}},
		{"fn main() { a: x = input net z = const -1 y = mod x z w = div x z return y }", nil},
		{"fn main() { a: x = input net z = const -9223372036854775808 y = mod x z w = div x z return y }", nil},
		{"fn main() { a: x = const 3 z = input net y = mod x z return y }", []sites.Site{{0, 0, 2, zero, 1}}},
		{"fn main() { a: x = const 0 z = const 3 y = mod x z return y }", nil},
		{"fn main() { a: x = const 3 z = add x x y = div x z return y }", []sites.Site{{0, 0, 2, zero, 1}}},
		{"fn main() { a: x = const 3 z = release x low y = div x z return y }", []sites.Site{{0, 0, 2, zero, 1}}},
		{"array t 1 low fn main() { a: x = const 3 z = wrap t x y = div x z return y }", []sites.Site{{0, 0, 2, zero, 1}}},
		{"fn main() { a: x = const 3 branch x b c b: jump c c: z = phi [a: x, b: x] y = div x z return y }", []sites.Site{{0, 2, 1, zero, 1}}},
		{"fn main() { a: x = const 3 y = call f(x, x) return y } fn f(n, m) { a: x = div n m return x }", []sites.Site{{1, 0, 0, zero, 1}}},
		// The other operators do not trap.
		{"fn main() { a: z = const 0 b = add z z c = sub z z d = mul z z e = and z z f = or z z g = xor z z h = shl z z i = shr z z j = eq z z k = less z z return k }", nil},
		// Indexes: a const within the array, at its edges, beyond them.
		{"array t 4 low fn main() { a: i = const 0 y = load t i return y }", nil},
		{"array t 4 low fn main() { a: i = const 3 y = load t i return y }", nil},
		{"array t 4 low fn main() { a: i = const 4 y = load t i return y }", []sites.Site{{0, 0, 1, index, 0}}},
		{"array t 4 low fn main() { a: i = const -1 y = load t i return y }", []sites.Site{{0, 0, 1, index, 0}}},
		{"array t 4 low fn main() { a: i = const 4294967296 y = load t i return y }", []sites.Site{{0, 0, 1, index, 0}}},
		{"array t 4 low fn main() { a: i = const 9223372036854775807 y = load t i return y }", []sites.Site{{0, 0, 1, index, 0}}},
		{"array t 4 low fn main() { a: i = const -9223372036854775808 y = load t i return y }", []sites.Site{{0, 0, 1, index, 0}}},
		{"array t 256 low fn main() { a: i = const 255 y = load t i j = const 256 z = load t j return y }", []sites.Site{{0, 0, 3, index, 2}}},
		{"array t 1 low fn main() { a: i = const 0 y = load t i j = const 1 z = load t j return y }", []sites.Site{{0, 0, 3, index, 2}}},
		// Stores: the index counts, not what is stored.
		{"array t 4 low fn main() { a: i = const 3 x = input net store t i x store t x i return x }", []sites.Site{{0, 0, 3, index, 1}}},
		{"array t 4 low fn main() { a: i = const 4 x = const 1 store t i x store t x i return x }", []sites.Site{{0, 0, 2, index, 0}}},
		// A wrap of the same array, of one as great, of a lesser one, of a greater one.
		{"array t 4 low array u 4 high fn main() { a: x = input net i = wrap u x y = load t i store t i x return y }", nil},
		{"array t 4 low array u 3 high fn main() { a: x = input net i = wrap u x y = load t i store t i x return y }", nil},
		{"array t 4 low array u 5 high fn main() { a: x = input net i = wrap u x y = load t i store t i x return y }", []sites.Site{{0, 0, 2, index, 1}, {0, 0, 3, index, 1}}},
		// What is no const and no wrap, though it could be no other number.
		{"array t 4 low fn main() { a: x = const 1 i = release x low y = load t i z = load t y return y }", []sites.Site{{0, 0, 2, index, 1}, {0, 0, 3, index, 2}}},
		{"array t 4 low fn main() { a: x = const 1 i = and x x y = load t i return y }", []sites.Site{{0, 0, 2, index, 1}}},
		{"array t 4 low fn main() { a: x = const 1 w = wrap t x branch x b c b: jump c c: i = phi [a: x, b: w] y = load t i return y }", []sites.Site{{0, 2, 1, index, 2}}},
		{"array t 4 low fn f(i) { a: y = load t i return y } fn main() { a: x = const 1 y = call f(x) z = load t y return y }", []sites.Site{{0, 0, 0, index, 0}, {1, 0, 2, index, 1}}},
		// By function, block, place; values are defined in another block, or behind their use in the text.
		{"array t 4 low fn main() { a: x = input net jump c b: y = div x z w = load t j return y c: z = const 1 j = const 2 jump b }", nil},
		{"array t 4 low fn main() { a: x = input net jump c b: y = div x z w = load t j return y c: z = const 0 j = const 4 v = load t x jump b }", []sites.Site{{0, 1, 0, zero, 3}, {0, 1, 1, index, 4}, {0, 2, 2, index, 0}}},
		{"array t 4 low fn f(n) { a: y = div n n jump b b: store t n n z = mod n n return z } fn main() { a: x = input net y = load t x z = div x x return y } fn g(n, m) { a: y = div n m return y }",
			[]sites.Site{{0, 0, 0, zero, 0}, {0, 1, 0, index, 0}, {0, 1, 1, zero, 0}, {1, 0, 1, index, 0}, {1, 0, 2, zero, 0}, {2, 0, 0, zero, 1}}},
		// A number of one function says nothing of the same number in another one.
		{"fn f(n) { a: y = div n n return y } fn main() { a: x = const 1 y = div x x return y }", []sites.Site{{0, 0, 0, zero, 0}}},
		{"fn main() { a: x = const 1 y = div x x return y } fn f(n) { a: y = div n n return y }", []sites.Site{{1, 0, 0, zero, 0}}},
	} {
		d := code(t, p, c.text)
		if got, e := sites.All(p, d); e != api.OK || !slices.Equal(got, c.want) {
			t.Errorf("P14.1: All of %q = %v, %d, want %v", c.text, got, e, c.want)
		}
		check(t, p, d)
	}
}

// TestSafe asks of what is no instruction, too.
func TestSafe(t *testing.T) {
	p := setting(t, setup)
	c := code(t, p, "array t 4 low fn main() { a: x = input net y = div x x branch x b c b: jump c c: i = wrap t x z = load t i return z } fn f(n) { a: return n }")
	for _, w := range []struct {
		fn, block, place int
		want             bool
	}{
		{0, 0, 0, true}, {0, 0, 1, false}, {0, 0, 2, true}, {0, 1, 0, true}, {0, 2, 1, true}, {0, 2, 2, true}, {1, 0, 0, true},
		{-1, 0, 0, false}, {2, 0, 0, false}, {0, -1, 0, false}, {0, 3, 0, false}, {1, 1, 0, false}, {0, 0, -1, false}, {0, 0, 3, false}, {0, 1, 1, false}, {1, 0, 1, false},
		{math.MaxInt, 0, 0, false}, {0, math.MaxInt, 0, false}, {0, 0, math.MaxInt, false}, {math.MinInt, 0, 0, false}, {0, math.MinInt, 0, false}, {0, 0, math.MinInt, false},
	} {
		if got := sites.Safe(p, c, w.fn, w.block, w.place); got != w.want {
			t.Errorf("P14.2: Safe(%d, %d, %d) = %v", w.fn, w.block, w.place, got)
		}
	}
	check(t, p, c)
}

// TestFaults: of code with a fault, and of such as may not be, nothing is told.
func TestFaults(t *testing.T) {
	p := setting(t, setup)
	for _, s := range []string{
		"fn main() { a: x = const 0 y = div x x return y b: return x }",
		"fn main() { a: x = const 0 y = div x x branch x b c b: jump b c: return x }",
		"fn main() { a: x = const 0 y = div x x branch x a b b: return y }",
		"fn main() { a: x = const 0 y = div x x jump b b: z = phi [b: x] return z }",
		"fn main() { a: y = div x x x = const 1 return y }",
		"fn main() { a: x = const 0 y = div x x return y } fn f() { a: jump a }",
	} {
		c := code(t, p, s)
		if l, e := sites.All(p, c); len(l) != 0 || e != api.ErrArg {
			t.Errorf("P14.1: All of %q = %v, %d, want ErrArg", s, l, e)
		}
		if sites.Safe(p, c, 0, 0, 0) {
			t.Errorf("P14.2: Safe of %q", s)
		}
		check(t, p, c)
	}
	right := code(t, p, "array t 4 low fn main() { a: x = const 3 y = load t x z = div x y return z }")
	for _, change := range []func(c *api.Code){
		func(c *api.Code) { c.Arrays = nil },
		func(c *api.Code) { c.Arrays[0].Size = 257 },
		func(c *api.Code) { c.Main = 1 },
		func(c *api.Code) { c.Funcs[0].Vars = math.MaxInt },
		func(c *api.Code) { c.Funcs[0].Blocks[0][1].Ref = 1 },
		func(c *api.Code) { c.Funcs[0].Blocks[0][1].Ref = -1 },
		func(c *api.Code) { c.Funcs[0].Blocks[0][1].Args = nil },
		func(c *api.Code) { c.Funcs[0].Blocks[0][1].Args[0] = 9 },
		func(c *api.Code) { c.Funcs[0].Blocks[0][2].Args = []int{1} },
		func(c *api.Code) { c.Funcs[0].Blocks[0][2].Args[1] = -1 },
		func(c *api.Code) { c.Funcs[0].Blocks[0][2].Op = 99 },
	} {
		c := plain(right)
		change(&c)
		if l, e := sites.All(p, c); len(l) != 0 || e != api.ErrArg {
			t.Errorf("P14.1: All(%v) = %v, %d, want ErrArg", c, l, e)
		}
		check(t, p, c)
	}
	if l, e := sites.All(api.Policy{}, right); len(l) != 0 || e != api.ErrArg || sites.Safe(api.Policy{}, right, 0, 0, 0) {
		t.Errorf("P14.1, P14.2: of no policy: %v, %d", l, e)
	}
	check(t, api.Policy{}, api.Code{})
	check(t, p, api.Code{})
}

// TestAllPairs holds each way to define a value against each way to use it, of arrays of all sizes near one another.
func TestAllPairs(t *testing.T) {
	p := setting(t, setup)
	var wrong int
	for size := 1; size <= 4; size++ {
		for other := 1; other <= 4; other++ {
			for def := range 12 {
				for use := range 4 {
					x := []api.Op{
						{Kind: api.KConst, Num: -1}, {Kind: api.KConst}, {Kind: api.KConst, Num: 1}, {Kind: api.KConst, Num: 2}, {Kind: api.KConst, Num: 3}, {Kind: api.KConst, Num: 4},
						{Kind: api.KWrap, Ref: 0, Args: []int{0}}, {Kind: api.KWrap, Ref: 1, Args: []int{0}}, {Kind: api.KInput, Ref: 1}, {Kind: api.KLoad, Ref: 1, Args: []int{0}},
						{Kind: api.KRelease, Ref: 1, Args: []int{0}}, {Kind: api.KCall, Ref: 1, Args: []int{0}},
					}[def]
					y := []api.Op{
						{Kind: api.KBin, Op: api.OpDiv, Dst: 2, Args: []int{0, 1}}, {Kind: api.KBin, Op: api.OpMod, Dst: 2, Args: []int{0, 1}},
						{Kind: api.KLoad, Dst: 2, Ref: 0, Args: []int{1}}, {Kind: api.KStore, Dst: -1, Ref: 0, Args: []int{1, 0}},
					}[use]
					x.Dst = 1
					main := api.Body{Vars: 3, Blocks: [][]api.Op{{{Kind: api.KConst, Num: 1}, x, y, {Kind: api.KReturn, Dst: -1, Args: []int{0}}}}}
					if y.Dst < 0 {
						main.Vars = 2
					}
					f := api.Body{Params: 1, Vars: 1, Blocks: [][]api.Op{{{Kind: api.KReturn, Dst: -1, Args: []int{0}}}}}
					c := api.Code{Arrays: []api.Cell{{Size: size}, {Size: other}}, Funcs: []api.Body{main, f}}
					if !ssa.Right(p, c) {
						t.Fatalf("the test's own code has a fault: %v", c)
					}
					wrong += len(check(t, p, c))
				}
			}
		}
	}
	if wrong < 100 {
		t.Errorf("the test's own code has only %d sites", wrong)
	}
}

// TestByChance holds long functions against the chapter.
func TestByChance(t *testing.T) {
	p := setting(t, setup)
	r := rand.New(rand.NewSource(14))
	for range 400 {
		var c api.Code
		for range 1 + r.Intn(4) {
			c.Arrays = append(c.Arrays, api.Cell{Size: 1 + r.Intn(5), Level: r.Intn(2)})
		}
		for range 1 + r.Intn(3) {
			c.Funcs = append(c.Funcs, body(r, r.Intn(3), len(c.Arrays)))
		}
		c.Funcs, c.Main = append(c.Funcs, body(r, 0, len(c.Arrays))), len(c.Funcs)
		if !ssa.Right(p, c) {
			t.Fatalf("the test's own code has a fault: %v", c)
		}
		check(t, p, c)
	}
}

// body makes a function by chance, whose blocks follow one another in some order.
func body(r *rand.Rand, params, arrays int) api.Body {
	blocks := 1 + r.Intn(4)
	order := append([]int{0}, r.Perm(blocks-1)...)
	for i := range order[1:] {
		order[i+1]++
	}
	kinds := make([][]api.Op, blocks)
	b := api.Body{Params: params, Vars: params, Blocks: make([][]api.Op, blocks)}
	for i := range kinds {
		for k := range 1 + r.Intn(6) {
			x := []api.Op{{Kind: api.KConst, Num: int64(r.Intn(7) - 1)}, {Kind: api.KWrap}, {Kind: api.KInput}, {Kind: api.KBin, Op: api.OpDiv}, {Kind: api.KBin, Op: api.OpMod}, {Kind: api.KBin, Op: api.OpAdd}, {Kind: api.KLoad}, {Kind: api.KStore}}[r.Intn(8)]
			if i == 0 && k == 0 {
				x = api.Op{Kind: api.KConst, Num: 1}
			}
			x.Dst = -1
			if x.Kind != api.KStore {
				x.Dst = b.Vars
				b.Vars++
			}
			kinds[i] = append(kinds[i], x)
		}
	}
	var known []int
	for i := range params {
		known = append(known, i)
	}
	some := func(n int) []int {
		var l []int
		for range n {
			l = append(l, known[r.Intn(len(known))])
		}
		return l
	}
	for n, i := range order {
		for _, x := range kinds[i] {
			switch x.Kind {
			case api.KWrap, api.KLoad:
				x.Ref, x.Args = r.Intn(arrays), some(1)
			case api.KStore:
				x.Ref, x.Args = r.Intn(arrays), some(2)
			case api.KBin:
				x.Args = some(2)
			}
			b.Blocks[i] = append(b.Blocks[i], x)
			if x.Dst >= 0 {
				known = append(known, x.Dst)
			}
		}
		end := api.Op{Kind: api.KReturn, Dst: -1, Args: some(1)}
		if n < blocks-1 {
			end = api.Op{Kind: api.KJump, Dst: -1, Ref: order[n+1]}
		}
		b.Blocks[i] = append(b.Blocks[i], end)
	}
	return b
}

// TestGreat: as many sites as there may be instructions.
func TestGreat(t *testing.T) {
	p := setting(t, setup)
	l := []api.Op{{Kind: api.KConst}}
	for i := range 4094 {
		l = append(l, api.Op{Kind: api.KBin, Op: api.OpDiv, Dst: 1 + i, Args: []int{i, i}})
	}
	l = append(l, api.Op{Kind: api.KReturn, Dst: -1, Args: []int{0}})
	c := api.Code{Funcs: []api.Body{{Vars: 4095, Blocks: [][]api.Op{l}}}}
	got, e := sites.All(p, c)
	if e != api.OK || len(got) != 4094 {
		t.Fatalf("P14.1: %d sites, %d", len(got), e)
	}
	for i, s := range got {
		if s != (sites.Site{Place: 1 + i, Kind: api.ErrZero, Value: i}) {
			t.Fatalf("P14.1: the site %d is %v", i, s)
		}
	}
	if sites.Safe(p, c, 0, 0, 4094) || !sites.Safe(p, c, 0, 0, 4095) || sites.Safe(p, c, 0, 0, 4096) {
		t.Error("P14.2: at the end of a great block")
	}
}
