package names_test

import (
	"math"
	"math/rand"
	"reflect"
	"slices"
	"strconv"
	"testing"

	"interdict/api"
	"interdict/names"
	"interdict/printer"
	"interdict/tree"
)

// channel is the name of a channel that there may not be.
func channel(l []api.Channel, i int) string {
	if i < 0 || i >= len(l) {
		return ""
	}
	return l[i].Name
}

// raised is the program of which c would be the code: names that are none stand where c has numbers that are none.
func raised(p api.Policy, c api.Code) api.Program {
	level := func(i int) string {
		if i < 0 || i >= len(p.Levels) {
			return ""
		}
		return p.Levels[i]
	}
	fn := func(i int) string {
		if i == c.Main {
			return "main"
		}
		return "f" + strconv.Itoa(i)
	}
	var q api.Program
	for i, a := range c.Arrays {
		q.Arrays = append(q.Arrays, api.Array{Name: "a" + strconv.Itoa(i), Size: a.Size, Level: level(a.Level)})
	}
	for i, b := range c.Funcs {
		f := api.Func{Name: fn(i)}
		for j := range min(b.Params, 7) {
			f.Params = append(f.Params, "v"+strconv.Itoa(j))
		}
		for j, l := range b.Blocks {
			k := api.Block{Name: "b" + strconv.Itoa(j)}
			for _, x := range l {
				k.Code = append(k.Code, instr(p, x, fn, level))
			}
			f.Blocks = append(f.Blocks, k)
		}
		q.Funcs = append(q.Funcs, f)
	}
	return q
}

// instr is the instruction of which x would be the numbers.
func instr(p api.Policy, x api.Op, fn, level func(int) string) api.Instr {
	y := api.Instr{Kind: x.Kind, Op: x.Op, Num: x.Num, At: x.At}
	for _, i := range x.Args {
		y.Args = append(y.Args, "v"+strconv.Itoa(i))
	}
	for _, i := range x.From {
		y.From = append(y.From, "b"+strconv.Itoa(i))
	}
	if x.Dst != -1 {
		y.Dst = "v" + strconv.Itoa(x.Dst)
	}
	switch x.Kind {
	case api.KLoad, api.KWrap, api.KStore:
		y.Ref = "a" + strconv.Itoa(x.Ref)
	case api.KCall:
		y.Ref = fn(x.Ref)
	case api.KInput:
		y.Ref = channel(p.Ins, x.Ref)
	case api.KOutput:
		y.Ref = channel(p.Outs, x.Ref)
	case api.KRelease:
		y.Ref = level(x.Ref)
	case api.KBranch:
		y.Ref, y.Alt = "b"+strconv.Itoa(x.Ref), "b"+strconv.Itoa(x.Alt)
	case api.KJump:
		y.Ref = "b" + strconv.Itoa(x.Ref)
	}
	return y
}

// told: is c told by Resolve of some program?
func told(p api.Policy, c api.Code) bool {
	d, _, e := names.Resolve(p, raised(p, c))
	return e == api.OK && same(c, d)
}

// checkCode holds what is said of a policy and code against the chapter.
func checkCode(t *testing.T, p api.Policy, c api.Code) bool {
	t.Helper()
	before, may := plain(c), told(p, c)
	if got := names.Right(p, c); got != may {
		t.Fatalf("P9.2: Right(%v, %v) = %v", p, c, got)
	}
	want, wantE := raised(p, c), api.OK
	if !may {
		want, wantE = api.Program{}, api.ErrArg
	}
	q, e := names.Raise(p, c)
	if e != wantE || !reflect.DeepEqual(tidy(q), tidy(want)) {
		t.Fatalf("P9.2: Raise(%v, %v) = %v, %d, want %v, %d", p, c, q, e, want, wantE)
	}
	if !reflect.DeepEqual(plain(c), before) {
		t.Fatalf("R4: what was handed in is changed: %v, was %v", c, before)
	}
	return may
}

func TestRaise(t *testing.T) {
	p := setting(t, setup)
	c, _, e := names.Resolve(p, written(t, `
		array t 4 low array u 5 high
		fn add1(n, m) { start: k = input key branch k b c b: x = const -3 jump d c: jump d d: y = phi [b: x, c: m] return y }
		fn main() { go: i = wrap u i v = load t i store u v i w = call add1(i, v) s = call sub1() output vault w r = release w low return r }
		fn sub1() { l: z = input net jump l }`))
	if e != api.OK {
		t.Fatalf("P9.1: %d", e)
	}
	for i := range c.Funcs {
		for _, l := range c.Funcs[i].Blocks {
			for k := range l {
				l[k].At = 9 - k
			}
		}
	}
	q, e := names.Raise(p, c)
	want := "array a0 4 low\narray a1 5 high\n" +
		"fn f0(v0, v1) {\nb0:\n  v2 = input key\n  branch v2 b1 b2\nb1:\n  v3 = const -3\n  jump b3\nb2:\n  jump b3\nb3:\n  v4 = phi [b1: v3, b2: v1]\n  return v4\n}\n" +
		"fn main() {\nb0:\n  v0 = wrap a1 v0\n  v1 = load a0 v0\n  store a1 v1 v0\n  v2 = call f0(v0, v1)\n  v3 = call f2()\n  output vault v2\n  v4 = release v2 low\n  return v4\n}\n" +
		"fn f2() {\nb0:\n  v0 = input net\n  jump b0\n}\n"
	if s, f := printer.Print(q); e != api.OK || f != api.OK || s != want {
		t.Errorf("P9.2: %s, %d, %d, want %s", s, e, f, want)
	}
	for _, f := range q.Funcs {
		for _, b := range f.Blocks {
			for k, x := range b.Code {
				if x.At != 9-k {
					t.Errorf("P9.2: the At of %v, want %d", x, 9-k)
				}
			}
			if b.At != 0 {
				t.Errorf("P9.2: the At of the block %v", b)
			}
		}
		if f.At != 0 {
			t.Errorf("P9.2: the At of the function %v", f)
		}
	}
	if q.Arrays[0].At != 0 || q.Arrays[1].At != 0 {
		t.Errorf("P9.2: the Ats of the arrays %v", q.Arrays)
	}
	if back, _, e := names.Resolve(p, q); e != api.OK || !same(back, c) {
		t.Errorf("P9.2: %v, %d, want %v", back, e, c)
	}
	if !checkCode(t, p, c) {
		t.Error("P9.2: it may not be")
	}
}

func TestRaiseOfProgramsByChance(t *testing.T) {
	p, m := setting(t, setup), maker{rand.New(rand.NewSource(17))}
	for range 3000 {
		c, _, e := names.Resolve(p, m.program())
		if e != api.OK || !checkCode(t, p, c) {
			t.Fatalf("P9.2: of %v, %d", c, e)
		}
		q, _ := names.Raise(p, c)
		s, e := printer.Print(q)
		r, _, f := tree.Parse(s)
		back, _, g := names.Resolve(p, r)
		for i := range back.Funcs {
			for j, l := range back.Funcs[i].Blocks {
				for k := range l {
					l[k].At = c.Funcs[i].Blocks[j][k].At
				}
			}
		}
		if e != api.OK || f != api.OK || g != api.OK || !same(back, c) {
			t.Fatalf("P9.2: %s: %d, %d, %d", s, e, f, g)
		}
	}
}

// small is code that has of each kind of instruction one at least.
func small(t *testing.T) api.Code {
	t.Helper()
	c, _, e := names.Resolve(setting(t, setup), written(t, `
		array t 4 low array u 256 high
		fn f(n, m) {
		a: x = phi [b: n, a: x] y = phi [a: m] z = div x y w = const 0 branch w b a
		b: store u n m jump a }
		fn main() { a: i = wrap u i v = load t i w = call f(i, v) output vault w s = call g() r = release w low return r }
		fn g() { l: z = input net o = const 1 q = shr z o return q }`))
	if e != api.OK {
		t.Fatalf("the test's own program: %d", e)
	}
	return c
}

// around are numbers around one, and far from it.
func around(n int) []int {
	return []int{n - 1, n + 1, n - 2, n + 2, -2, -1, 0, 1, 2, 3, 4, 5, 6, 7, 63, 64, 65, 256, 257, 1 << 32, -1 << 32, math.MaxInt, math.MinInt}
}

// numbersOf are all numbers of code, but for the Ats.
func numbersOf(c *api.Code) []*int {
	l := []*int{&c.Main}
	for i := range c.Arrays {
		l = append(l, &c.Arrays[i].Size, &c.Arrays[i].Level)
	}
	for i := range c.Funcs {
		b := &c.Funcs[i]
		l = append(l, &b.Params, &b.Vars)
		for _, code := range b.Blocks {
			for k := range code {
				x := &code[k]
				l = append(l, &x.Dst, &x.Ref, &x.Alt)
				for j := range x.Args {
					l = append(l, &x.Args[j])
				}
				for j := range x.From {
					l = append(l, &x.From[j])
				}
			}
		}
	}
	return l
}

// instrsOf are all instructions of code.
func instrsOf(c *api.Code) []*api.Op {
	var l []*api.Op
	for i := range c.Funcs {
		for _, code := range c.Funcs[i].Blocks {
			for k := range code {
				l = append(l, &code[k])
			}
		}
	}
	return l
}

func TestCodeWithAnotherNumber(t *testing.T) {
	p, c := setting(t, setup), small(t)
	if !checkCode(t, p, c) {
		t.Fatal("P9.2: it may not be")
	}
	may := map[bool]int{}
	for _, n := range numbersOf(&c) {
		was := *n
		for _, *n = range around(was) {
			may[checkCode(t, p, c)]++
		}
		*n = was
	}
	for _, x := range instrsOf(&c) {
		was := *x
		for kind := range 256 {
			x.Kind = uint8(kind)
			may[checkCode(t, p, c)]++
		}
		*x = was
		for op := range 256 {
			x.Op = uint8(op)
			may[checkCode(t, p, c)]++
		}
		*x = was
		for _, x.Num = range []int64{0, 1, -1, math.MaxInt64, math.MinInt64} {
			may[checkCode(t, p, c)]++
		}
		*x = was
		for _, x.At = range around(was.At) {
			if !checkCode(t, p, c) {
				t.Errorf("P9.2: with the At %d it may not be", x.At)
			}
		}
		*x = was
	}
	if may[true] < 300 || may[false] < 3000 {
		t.Errorf("the test's own code: %v", may)
	}
}

func TestCodeWithOtherLists(t *testing.T) {
	p, c := setting(t, setup), small(t)
	may := map[bool]int{}
	check := func() { may[checkCode(t, p, c)]++ }
	for _, x := range instrsOf(&c) {
		was := *x
		for _, n := range []int{0, 1, 2, 3, 6, 7, 63, 64, 65} {
			l := make([]int, n)
			x.Args = l
			check()
			x.From = slices.Clone(l)
			check()
			x.Args = was.Args
			check()
			x.From = was.From
		}
		// An empty list is as good as none.
		x.Args, x.From = append([]int{}, was.Args...), append([]int{}, was.From...)
		if !checkCode(t, p, c) {
			t.Error("R3: with empty lists it may not be")
		}
		*x = was
		// An instruction of another place in its stead.
		for _, y := range instrsOf(&c) {
			*x = *y
			check()
			x.Dst = was.Dst
			check()
			*x = was
		}
	}
	for i := range c.Funcs {
		b := &c.Funcs[i]
		was := *b
		for j := range was.Blocks {
			b.Blocks = slices.Delete(slices.Clone(was.Blocks), j, j+1)
			check()
			b.Blocks = slices.Insert(slices.Clone(was.Blocks), j, nil)
			check()
			b.Blocks = slices.Clone(was.Blocks)
			for k := range was.Blocks[j] {
				b.Blocks[j] = slices.Delete(slices.Clone(was.Blocks[j]), k, k+1)
				check()
				b.Blocks[j] = slices.Insert(slices.Clone(was.Blocks[j]), k, was.Blocks[j][k])
				check()
			}
			b.Blocks[j] = nil
			check()
		}
		*b = was
	}
	if may[true] < 200 || may[false] < 900 {
		t.Errorf("the test's own code: %v", may)
	}
}

func TestCodeByChance(t *testing.T) {
	p, m := setting(t, setup), maker{rand.New(rand.NewSource(18))}
	may := map[bool]int{}
	for range 10000 {
		c, _, e := names.Resolve(p, m.program())
		if e != api.OK {
			t.Fatalf("P9.1: %d", e)
		}
		l := numbersOf(&c)
		for range 1 + m.Intn(2) {
			*l[m.Intn(len(l))] += m.Intn(3) - 1
		}
		if m.Intn(3) == 0 {
			b := &c.Funcs[m.Intn(3)]
			code := b.Blocks[m.Intn(len(b.Blocks))]
			m.Shuffle(len(code), func(i, j int) { code[i], code[j] = code[j], code[i] })
		}
		if m.Intn(5) == 0 {
			m.Shuffle(3, func(i, j int) { c.Funcs[i], c.Funcs[j] = c.Funcs[j], c.Funcs[i] })
		}
		may[checkCode(t, p, c)]++
	}
	if may[true] < 1000 || may[false] < 3000 {
		t.Errorf("the test's own code: %v", may)
	}
}

func TestAsMuchAsMayBe(t *testing.T) {
	p := setting(t, setup)
	jump := api.Op{Kind: api.KJump, Dst: -1}
	end := func(vars, n int) api.Body {
		var l []api.Op
		for i := range n - 1 {
			l = append(l, api.Op{Kind: api.KConst, Dst: vars - n + 1 + i})
		}
		return api.Body{Params: vars - n + 1, Vars: vars, Blocks: [][]api.Op{append(l, jump)}}
	}
	main := end(0, 1)
	blocks := func(n int) api.Body { return api.Body{Blocks: slices.Repeat(main.Blocks, n)} }
	phi := func(n int) api.Body {
		return api.Body{Vars: 1, Blocks: [][]api.Op{{{Kind: api.KPhi, Args: make([]int, n), From: make([]int, n)}, jump}}}
	}
	for _, c := range []struct {
		c   api.Code
		may bool
	}{
		{api.Code{}, false},
		{api.Code{Main: -1}, false},
		{api.Code{Arrays: []api.Cell{{Size: 1}}}, false},
		{api.Code{Funcs: []api.Body{main}}, true},
		{api.Code{Funcs: []api.Body{main}, Main: 1}, false},
		{api.Code{Funcs: []api.Body{main}, Main: -1}, false},
		{api.Code{Funcs: []api.Body{end(1, 1)}}, false},
		{api.Code{Funcs: []api.Body{end(1, 1), main}, Main: 1}, true},
		{api.Code{Funcs: []api.Body{{}}}, false},
		{api.Code{Funcs: []api.Body{main, {}}}, false},
		{api.Code{Funcs: []api.Body{{Blocks: [][]api.Op{nil}}}}, false},
		{api.Code{Funcs: slices.Repeat([]api.Body{main}, 64), Main: 63}, true},
		{api.Code{Funcs: slices.Repeat([]api.Body{main}, 65), Main: 63}, false},
		{api.Code{Funcs: []api.Body{main}, Arrays: slices.Repeat([]api.Cell{{Size: 256, Level: 1}}, 16)}, true},
		{api.Code{Funcs: []api.Body{main}, Arrays: slices.Repeat([]api.Cell{{Size: 256, Level: 1}}, 17)}, false},
		{api.Code{Funcs: []api.Body{main}, Arrays: []api.Cell{{Size: 257}}}, false},
		{api.Code{Funcs: []api.Body{main}, Arrays: []api.Cell{{Size: 1}, {Size: 0}}}, false},
		{api.Code{Funcs: []api.Body{main}, Arrays: []api.Cell{{Size: -1}}}, false},
		{api.Code{Funcs: []api.Body{main}, Arrays: []api.Cell{{Size: 1, Level: 2}}}, false},
		{api.Code{Funcs: []api.Body{main}, Arrays: []api.Cell{{Size: 1, Level: -1}}}, false},
		{api.Code{Funcs: []api.Body{main, end(6, 1)}}, true},
		{api.Code{Funcs: []api.Body{main, end(7, 1)}}, false},
		{api.Code{Funcs: []api.Body{end(-1, 1), main}, Main: 1}, false},
		{api.Code{Funcs: []api.Body{main, {Params: math.MaxInt, Vars: math.MaxInt, Blocks: main.Blocks}}}, false},
		{api.Code{Funcs: []api.Body{main, {Params: math.MinInt, Vars: math.MinInt, Blocks: main.Blocks}}}, false},
		{api.Code{Funcs: []api.Body{blocks(64)}}, true},
		{api.Code{Funcs: []api.Body{blocks(65)}}, false},
		{api.Code{Funcs: []api.Body{end(4095, 4096)}}, true},
		{api.Code{Funcs: []api.Body{end(4096, 4097)}}, false},
		{api.Code{Funcs: []api.Body{main, end(4100, 4095)}}, true},
		{api.Code{Funcs: []api.Body{main, end(4101, 4096)}}, false},
		{api.Code{Funcs: []api.Body{end(2047, 2048), end(2053, 2048)}}, true},
		{api.Code{Funcs: []api.Body{end(2047, 2048), end(2048, 2048), main}}, false},
		{api.Code{Funcs: slices.Repeat([]api.Body{blocks(64)}, 64)}, true},
		{api.Code{Funcs: []api.Body{phi(0)}}, false},
		{api.Code{Funcs: []api.Body{phi(1)}}, true},
		{api.Code{Funcs: []api.Body{phi(64)}}, true},
		{api.Code{Funcs: []api.Body{phi(65)}}, false},
	} {
		if may := checkCode(t, p, c.c); may != c.may {
			t.Errorf("P9.2: Right of %d arrays, %d functions: %v, want %v", len(c.c.Arrays), len(c.c.Funcs), may, c.may)
		}
	}
	for _, c := range []api.Code{
		{Funcs: make([]api.Body, 1<<16)},
		{Arrays: make([]api.Cell, 1<<16), Funcs: []api.Body{main}},
		{Funcs: []api.Body{{Blocks: make([][]api.Op, 1<<16)}}},
		{Funcs: []api.Body{{Blocks: [][]api.Op{make([]api.Op, 1<<16)}}}},
		{Funcs: []api.Body{phi(1 << 20)}},
	} {
		if q, e := names.Raise(p, c); names.Right(p, c) || e != api.ErrArg || len(q.Arrays)+len(q.Funcs) != 0 {
			t.Errorf("P9.2: of a great many: %v, %d", q, e)
		}
	}
}

func TestCallsOfWhatMayNotBe(t *testing.T) {
	p := setting(t, setup)
	call := func(params int, args ...int) api.Code {
		return api.Code{Funcs: []api.Body{
			{Vars: 1, Blocks: [][]api.Op{{{Kind: api.KCall, Ref: 1, Args: args}, {Kind: api.KReturn, Dst: -1, Args: []int{0}}}}},
			{Params: params, Vars: params, Blocks: [][]api.Op{{{Kind: api.KJump, Dst: -1}}}},
		}}
	}
	for params := -1; params <= 8; params++ {
		for n := range 9 {
			if may := checkCode(t, p, call(params, make([]int, n)...)); may != (n == params && n <= 6) {
				t.Errorf("P9.2: %d arguments of a function of %d parameters: %v", n, params, may)
			}
		}
	}
	for _, params := range []int{math.MaxInt, math.MinInt} {
		checkCode(t, p, call(params))
	}
}

func TestCodeOfAnotherPolicy(t *testing.T) {
	p, c := setting(t, setup), small(t)
	for _, s := range []string{
		"level low\ninput net low\noutput net low\ndepth 1",
		"level low\nlevel high\nflow low high\ndepth 8",
		"level low\nlevel high\nflow low high\ninput key high\noutput net low\noutput vault high\ndepth 8",
		"level low\nlevel high\nflow low high\ninput key high\ninput net low\noutput vault high\ndepth 8",
		"level a\ninput b a\ninput c a\noutput d a\noutput e a\ndepth 1",
	} {
		if checkCode(t, setting(t, s), c) {
			t.Errorf("P9.2: for the policy %q it may be", s)
		}
	}
	other := setting(t, "level b\nlevel a\nflow b a\ninput c b\ninput d a\ninput e b\noutput f a\noutput g b\ndepth 1")
	if !checkCode(t, other, c) {
		t.Error("P9.2: for a policy of other names it may not be")
	}
	for _, bad := range []api.Policy{{}, {Levels: p.Levels, Up: p.Up, Ins: p.Ins, Outs: p.Outs}, {Levels: p.Levels, Ins: p.Ins, Outs: p.Outs, Depth: 8}} {
		if checkCode(t, bad, c) || checkCode(t, bad, api.Code{}) {
			t.Errorf("P9.2: for %v it may be", bad)
		}
	}
	if !checkCode(t, great(t), c) {
		t.Error("P9.2: for a greater policy it may not be")
	}
	whole, _, _ := names.Resolve(great(t), whole())
	if !checkCode(t, great(t), whole) || checkCode(t, p, whole) {
		t.Error("P9.2: the greatest")
	}
}

func TestRaiseIsNewMemory(t *testing.T) {
	p, c := setting(t, setup), small(t)
	first, _ := names.Raise(p, c)
	second, _ := names.Raise(p, c)
	want := raised(p, c)
	var l [][]string
	for _, f := range first.Funcs {
		l = append(l, f.Params)
		for _, b := range f.Blocks {
			for _, x := range b.Code {
				l = append(l, x.Args, x.From)
			}
			clear(b.Code[:cap(b.Code)])
		}
		clear(f.Blocks[:cap(f.Blocks)])
	}
	clear(first.Funcs[:cap(first.Funcs)])
	clear(first.Arrays[:cap(first.Arrays)])
	for i := range l {
		for k := range l[i][:cap(l[i])] {
			l[i][:cap(l[i])][k] = strconv.Itoa(i)
		}
	}
	for i := range l {
		if slices.ContainsFunc(l[i][:cap(l[i])], func(s string) bool { return s != strconv.Itoa(i) }) {
			t.Fatal("R4: lists of one answer share memory")
		}
	}
	for _, n := range numbersOf(&c) {
		*n = 99
	}
	if !reflect.DeepEqual(tidy(second), tidy(want)) {
		t.Error("R4: an answer shares memory with another one, or with what is handed in")
	}
}

func TestNothingIsWrittenBehindNumbers(t *testing.T) {
	p, c := setting(t, setup), small(t)
	var l [][]int
	for _, x := range instrsOf(&c) {
		x.Args, x.From = append(slices.Clone(x.Args), 77, 78)[:len(x.Args)], append(slices.Clone(x.From), 77, 78)[:len(x.From)]
		l = append(l, x.Args, x.From)
	}
	if !checkCode(t, p, c) {
		t.Error("P9.2: it may not be")
	}
	for _, x := range l {
		if behind := x[len(x) : len(x)+2]; behind[0] != 77 || behind[1] != 78 {
			t.Errorf("R4: behind %v stands %v", x, behind)
		}
	}
}
