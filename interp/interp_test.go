package interp_test

import (
	"math"
	"reflect"
	"slices"
	"strconv"
	"strings"
	"sync"
	"testing"

	"interdict/api"
	"interdict/interp"
	"interdict/names"
	"interdict/policy"
	"interdict/tree"
)

const setup = "level low\nlevel high\nflow low high\ninput key high\ninput net low\noutput net low\noutput vault high\ndepth 8"

// setting is the policy of a text.
func setting(t *testing.T, s string) api.Policy {
	t.Helper()
	p, _, e := policy.Parse(s)
	if e != api.OK {
		t.Fatalf("the test's own policy %q is refused: %d", s, e)
	}
	return p
}

// code is that of a program's text.
func code(t *testing.T, p api.Policy, s string) api.Code {
	t.Helper()
	q, at, e := tree.Parse(s)
	if e != api.OK {
		t.Fatalf("the test's own program %q is refused: %d at %d", s, e, at)
	}
	c, at, e := names.Resolve(p, q)
	if e != api.OK {
		t.Fatalf("the test's own program %q has a wrong name: %d at %d", s, e, at)
	}
	return c
}

// plain is code with nil for each list that is empty, in memory of its own.
func plain(c api.Code) api.Code {
	d := api.Code{Arrays: append([]api.Cell(nil), c.Arrays...), Funcs: append([]api.Body(nil), c.Funcs...), Main: c.Main}
	for i, b := range d.Funcs {
		d.Funcs[i].Blocks = append([][]api.Op(nil), b.Blocks...)
		for j, l := range b.Blocks {
			l = append([]api.Op(nil), l...)
			for k, x := range l {
				l[k].Args, l[k].From = append([]int(nil), x.Args...), append([]int(nil), x.From...)
			}
			d.Funcs[i].Blocks[j] = l
		}
	}
	return d
}

// same: are two results the same?
func same(a, b interp.Result) bool {
	return a.Status == b.Status && a.Steps == b.Steps && slices.Equal(a.Events, b.Events)
}

// run does code that may be run.
func run(t *testing.T, p api.Policy, c api.Code, fuel int, inputs ...[]int64) interp.Result {
	t.Helper()
	r, e := interp.Run(p, c, inputs, fuel)
	if e != api.OK {
		t.Fatalf("P16.1: Run(%v) = %d", c, e)
	}
	return r
}

// ended holds how a run of a program's text ended against what is wanted, and tells the values of its events.
func ended(t *testing.T, p api.Policy, s string, status api.Errno, steps int, inputs ...[]int64) []int64 {
	t.Helper()
	r := run(t, p, code(t, p, s), 1000, inputs...)
	if r.Status != status || r.Steps != steps {
		t.Errorf("P16.1: %q with %v ends with %d behind %d steps, want %d, %d", s, inputs, r.Status, r.Steps, status, steps)
	}
	var l []int64
	for _, e := range r.Events {
		l = append(l, e.Value)
	}
	return l
}

// tells holds the values of a run's events against what is wanted.
func tells(t *testing.T, s string, got []int64, want ...int64) {
	t.Helper()
	if !slices.Equal(got, want) {
		t.Errorf("P16.1: %q tells %v, want %v", s, got, want)
	}
}

const seven = "fn main() { a: x = const 7 output net x return x }"

// TestExamples are the chapter's.
func TestExamples(t *testing.T) {
	p := setting(t, setup)
	event := api.Event{Kind: api.EOutput, Ref: 0, Value: 7, Fn: 0, At: strings.Index(seven, "output")}
	for fuel, want := range []interp.Result{
		{Status: api.ErrFuel, Steps: 0},
		{Status: api.ErrFuel, Steps: 1},
		{Status: api.ErrFuel, Steps: 2, Events: []api.Event{event}},
		{Status: api.OK, Steps: 3, Events: []api.Event{event}},
		{Status: api.OK, Steps: 3, Events: []api.Event{event}},
	} {
		if got := run(t, p, code(t, p, seven), fuel); !same(got, want) {
			t.Errorf("P16.1: with fuel %d: %v, want %v", fuel, got, want)
		}
	}
	ended(t, p, "fn main() { a: x = call f() return x } fn f() { a: x = call f() return x }", api.ErrDepth, 7)
	ended(t, p, "fn main() { a: x = call main() return x }", api.ErrDepth, 7)
}

// TestOperators: what is made of two numbers, and that the first one is the first.
func TestOperators(t *testing.T) {
	p := setting(t, setup)
	for _, c := range []struct {
		op         string
		a, b, want int64
	}{
		{"add", 3, 4, 7}, {"sub", 3, 4, -1}, {"mul", 3, -4, -12}, {"div", -7, 2, -3}, {"mod", -7, 2, -1}, {"and", 12, 10, 8}, {"or", 12, 10, 14},
		{"xor", 12, 10, 6}, {"shl", 3, 2, 12}, {"shr", 12, 2, 3}, {"eq", 3, 3, 1}, {"eq", 3, 4, 0}, {"less", 3, 4, 1}, {"less", 4, 3, 0},
		{"add", math.MaxInt64, 1, math.MinInt64}, {"sub", math.MinInt64, 1, math.MaxInt64}, {"mul", math.MinInt64, -1, math.MinInt64},
		{"div", math.MinInt64, -1, math.MinInt64}, {"mod", math.MinInt64, -1, 0}, {"shl", 1, 64, 1}, {"shr", -1, 63, -1}, {"div", 0, 5, 0},
	} {
		s := "fn main() { a: x = input key y = input net z = " + c.op + " x y output net z output vault x return z }"
		tells(t, s, ended(t, p, s, api.OK, 6, []int64{c.a}, []int64{c.b}), c.want, c.a)
	}
	// A division by 0 ends the run, and is no step; what stands behind is not done.
	for _, op := range []string{"div", "mod"} {
		s := "fn main() { a: x = input key y = input net output net x z = " + op + " x y output net z return z }"
		tells(t, s, ended(t, p, s, api.ErrZero, 3, []int64{5}, []int64{0}), 5)
		tells(t, s, ended(t, p, s, api.ErrZero, 3, []int64{0}, []int64{0}), 0)
		tells(t, s, ended(t, p, s, api.OK, 6, []int64{0}, []int64{3}), 0, 0)
	}
}

func TestConsts(t *testing.T) {
	p := setting(t, setup)
	for _, n := range []int64{0, 1, -1, math.MaxInt64, math.MinInt64} {
		s := "fn main() { a: x = const " + strconv.FormatInt(n, 10) + " output net x return x }"
		tells(t, s, ended(t, p, s, api.OK, 3), n)
	}
}

func TestArrays(t *testing.T) {
	p := setting(t, setup)
	get := "array t 3 low fn main() { a: i = input key x = load t i output net x return x }"
	set := "array t 3 low fn main() { a: i = input key o = const 4 store t i o x = load t i output net x return x }"
	for _, i := range []int64{0, 1, 2} {
		tells(t, get, ended(t, p, get, api.OK, 4, []int64{i}), 0)
		tells(t, set, ended(t, p, set, api.OK, 6, []int64{i}), 4)
	}
	for _, i := range []int64{-1, 3, 4, 256, 1 << 32, 1<<32 + 1, -1 << 32, math.MaxInt64, math.MinInt64} {
		tells(t, get, ended(t, p, get, api.ErrIndex, 1, []int64{i}))
		tells(t, set, ended(t, p, set, api.ErrIndex, 2, []int64{i}))
	}
	for s, want := range map[string][]int64{
		// The index is the first one; what is at other indexes, and in other arrays, stays.
		"array t 9 low array u 9 high fn main() { a: i = const 2 x = const 5 store t i x a0 = load t i a1 = load t x a2 = load u i output net a0 output net a1 output net a2 return x }": {5, 0, 0},
		"array t 9 low array u 9 high fn main() { a: i = const 2 x = const 5 store u i x a0 = load t i a1 = load u x a2 = load u i output net a0 output net a1 output net a2 return x }": {0, 0, 5},
		// A value is stored as it was: what is stored later is another one.
		"array t 2 low fn main() { a: i = const 1 x = const 5 store t i x y = load t i z = add x y store t i z w = load t i output net y output net w return x }": {5, 10},
		// All functions have the same arrays, and what one stored stays there behind it.
		"array t 2 low fn f(n) { a: x = load t n y = add x n store t n y return x } fn main() { a: i = const 1 x = call f(i) y = call f(i) z = load t i output net x output net y output net z return x }": {0, 1, 2},
	} {
		c := code(t, p, s)
		for range 2 { // A second run begins anew.
			r := run(t, p, c, 1000)
			var l []int64
			for _, e := range r.Events {
				l = append(l, e.Value)
			}
			tells(t, s, l, want...)
		}
	}
	// The greatest array, to its end.
	s := "array t 256 low fn main() { a: i = const 255 store t i i x = load t i output net x return x }"
	tells(t, s, ended(t, p, s, api.OK, 5), 255)
	s = "array t 256 low fn main() { a: i = const 256 store t i i return i }"
	tells(t, s, ended(t, p, s, api.ErrIndex, 1))
	s = "array t 256 low array u 2 low fn main() { a: i = const 255 x = load t i y = load u i return i }"
	tells(t, s, ended(t, p, s, api.ErrIndex, 2))
}

func TestWraps(t *testing.T) {
	p := setting(t, setup)
	for _, c := range []struct {
		size    int
		n, want int64
	}{
		{4, 0, 0}, {4, 3, 3}, {4, 4, 0}, {4, 5, 1}, {4, -1, 3}, {4, -3, 1}, {4, -4, 0}, {4, -5, 3}, {1, 0, 0}, {1, 7, 0}, {1, -7, 0},
		{256, -1, 255}, {256, 255, 255}, {256, 256, 0}, {256, -257, 255}, {3, 1 << 40, 1},
		{3, math.MaxInt64, 1}, {3, math.MinInt64, 1}, {256, math.MinInt64, 0}, {256, math.MaxInt64, 255}, {7, math.MinInt64, 6}, {255, math.MaxInt64, 127},
	} {
		s := "array u 100 low array t " + strconv.Itoa(c.size) + " low fn main() { a: n = input key i = wrap t n output net i x = load t i return n }"
		tells(t, s, ended(t, p, s, api.OK, 5, []int64{c.n}), c.want)
	}
}

func TestCalls(t *testing.T) {
	p := setting(t, setup)
	for _, c := range []struct {
		text  string
		steps int
		want  []int64
	}{
		// Arguments in order; a call and a return are a step each.
		{"fn f(n, m) { a: x = sub n m return x } fn main() { a: x = const 9 y = const 4 z = call f(x, y) w = call f(y, x) output net z output net w return z }", 11, []int64{5, -5}},
		{"fn f(n, m, o, q, r, s) { a: output net s output net r output net n return o } fn main() { a: b = const 1 c = const 2 d = const 3 e = const 4 g = const 5 h = const 6 x = call f(b, c, d, e, g, h) output net x return x }", 13, []int64{6, 5, 1, 3}},
		{"fn f() { a: x = const 3 return x } fn main() { a: x = call f() output net x return x }", 5, []int64{3}},
		// What is returned is not what the function defined last.
		{"fn f(n) { a: x = const 3 return n } fn main() { a: x = const 8 y = call f(x) output net y return x }", 6, []int64{8}},
		// The values of a frame are its own: those of the caller stay, whatever their numbers.
		{"fn f(n) { a: x = const 3 y = const 4 z = const 5 return y } fn main() { a: x = const 8 y = const 9 z = call f(x) output net x output net y output net z return x }", 11, []int64{8, 9, 4}},
		// A function that calls itself: 5 * 4 * 3 * 2 * 1.
		{"fn f(n) { a: branch n b c b: o = const 1 m = sub n o x = call f(m) y = mul n x return y c: e = const 1 return e } fn main() { a: x = const 5 y = call f(x) output net y return y }", 37, []int64{120}},
		// A value that the call defines is used on in its own block, and in another one.
		{"fn f(n) { a: m = add n n return m } fn main() { a: x = const 1 y = call f(x) z = call f(y) jump b b: w = call f(z) output net w return w }", 13, []int64{8}},
		// Functions that call one another: is 6 even?
		{"fn even(n) { a: branch n b c b: o = const 1 m = sub n o x = call odd(m) return x c: e = const 1 return e } fn odd(n) { a: branch n b c b: o = const 1 m = sub n o x = call even(m) return x c: return n } fn main() { a: x = const 6 y = call even(x) output net y return y }", 37, []int64{1}},
		// A loop that calls.
		{"fn f(n) { a: o = const 1 m = sub n o output net m return m } fn main() { a: x = const 3 jump h h: i = phi [a: x, h: j] j = call f(i) branch j h c c: return j }", 21, []int64{2, 1, 0}},
	} {
		tells(t, c.text, ended(t, p, c.text, api.OK, c.steps), c.want...)
	}
}

// TestDepth: there are as many frames as the policy says, and not one more.
func TestDepth(t *testing.T) {
	s := "fn f(n) { a: branch n b c b: o = const 1 m = sub n o x = call f(m) return x c: output net n return n } fn main() { a: x = input net y = call f(x) return y }"
	for depth := 1; depth <= 64; depth++ {
		p := setting(t, "level low\ninput net low\noutput net low\ndepth "+strconv.Itoa(depth))
		c := code(t, p, s)
		for _, n := range []int{0, 1, 2, depth - 3, depth - 2, depth - 1, depth, 70} {
			if n < 0 {
				continue
			}
			// main and n + 1 frames of f, each of which but the last one has five steps; that one and main have three.
			want := interp.Result{Status: api.OK, Steps: 3 + 5*n + 3, Events: []api.Event{{Kind: api.EOutput, Fn: 0, At: strings.Index(s, "output")}}}
			if n+2 > depth {
				// The last call is no step; each frame of f ahead of it has four.
				want = interp.Result{Status: api.ErrDepth, Steps: 1 + 4*(depth-1)}
			}
			if got := run(t, p, c, 1000, []int64{int64(n)}); !same(got, want) {
				t.Errorf("P16.1: %d calls of depth %d: %v, want %v", n, depth, got, want)
			}
		}
	}
	// Frames that are gone do not count, however many there were.
	p := setting(t, "level low\noutput net low\ndepth 2")
	s = "fn f() { a: x = const 1 return x } fn main() { a: x = call f() y = call f() z = call f() w = call f() output net w return w }"
	tells(t, s, ended(t, p, s, api.OK, 14), 1)
	s = "fn g() { a: x = const 1 return x } fn f() { a: x = call g() return x } fn main() { a: x = const 1 output net x y = call f() return y }"
	tells(t, s, ended(t, p, s, api.ErrDepth, 3), 1)
}

func TestInputs(t *testing.T) {
	p := setting(t, setup)
	s := "fn main() { a: k = input key n = input net m = input net l = input key output net k output net n output net m output net l return k }"
	tells(t, s, ended(t, p, s, api.OK, 9, []int64{1, 2, 3}, []int64{4, 5, 6}), 1, 4, 5, 2)
	tells(t, s, ended(t, p, s, api.OK, 9, []int64{1, 2}, []int64{4, 5}), 1, 4, 5, 2)
	ended(t, p, s, api.ErrDry, 3, []int64{1}, []int64{4, 5})
	ended(t, p, s, api.ErrDry, 2, []int64{1, 2}, []int64{4})
	ended(t, p, s, api.ErrDry, 1, []int64{1, 2}, []int64{})
	ended(t, p, s, api.ErrDry, 1, []int64{1, 2})
	ended(t, p, s, api.ErrDry, 0)
	// All functions take from the same inputs.
	s = "fn f() { a: x = input net return x } fn main() { a: x = call f() y = input net z = call f() output net x output net y output net z return x }"
	tells(t, s, ended(t, p, s, api.OK, 11, nil, []int64{7, 8, 9}), 7, 8, 9)
}

// TestEvents: of what kind they are, whose, and where.
func TestEvents(t *testing.T) {
	p := setting(t, setup)
	s := "fn f(n) { a: output vault n x = release n high return x } fn main() { a: x = const 5 y = call f(x) z = release y low w = add z z output net w output vault w return w }"
	want := []api.Event{
		{Kind: api.EOutput, Ref: 1, Value: 5, Fn: 0, At: strings.Index(s, "output vault n")},
		{Kind: api.ERelease, Ref: 1, Value: 5, Fn: 0, At: strings.Index(s, "x = release")},
		{Kind: api.ERelease, Ref: 0, Value: 5, Fn: 1, At: strings.Index(s, "z = release")},
		{Kind: api.EOutput, Ref: 0, Value: 10, Fn: 1, At: strings.Index(s, "output net w")},
		{Kind: api.EOutput, Ref: 1, Value: 10, Fn: 1, At: strings.Index(s, "output vault w")},
	}
	c := code(t, p, s)
	if got := run(t, p, c, 1000); !same(got, interp.Result{Status: api.OK, Steps: 10, Events: want}) {
		t.Errorf("P16.1: %v, want %v", got, want)
	}
	// The places are the instructions' own, whatever they are.
	for i, at := range []int{0, 9, math.MaxInt, 9, 1} {
		want[i].At = at
	}
	c.Funcs[0].Blocks[0][0].At, c.Funcs[0].Blocks[0][1].At = 0, 9
	c.Funcs[1].Blocks[0][2].At, c.Funcs[1].Blocks[0][4].At, c.Funcs[1].Blocks[0][5].At = math.MaxInt, 9, 1
	if got := run(t, p, c, 1000); !slices.Equal(got.Events, want) {
		t.Errorf("P16.1: %v, want %v", got.Events, want)
	}
	// What was told ahead of the end stays told, whatever ended the run.
	for s, status := range map[string]api.Errno{
		"fn main() { a: x = const 5 output net x y = input key return x }":                                                             api.ErrDry,
		"fn main() { a: x = const 5 output net x z = const 0 y = div x z return x }":                                                   api.ErrZero,
		"array t 5 low fn main() { a: x = const 5 output net x y = load t x return x }":                                                api.ErrIndex,
		"fn main() { a: x = const 5 output net x y = call f() return x } fn f() { a: jump b b: x = const 0 branch x c b c: return x }": api.ErrFuel,
	} {
		r := run(t, p, code(t, p, s), 1000)
		if r.Status != status || len(r.Events) != 1 || r.Events[0].Value != 5 {
			t.Errorf("P16.1: %q: %v", s, r)
		}
	}
}

// TestBranches: to Ref, if the value is not 0, else to Alt.
func TestBranches(t *testing.T) {
	p := setting(t, setup)
	s := "fn main() { a: x = input key branch x b c b: y = const 1 output net y return y c: z = const 2 output net z return z }"
	for n, want := range map[int64]int64{0: 2, 1: 1, -1: 1, 2: 1, 256: 1, 1 << 32: 1, math.MinInt64: 1, math.MaxInt64: 1} {
		tells(t, s, ended(t, p, s, api.OK, 5, []int64{n}), want)
	}
	s = "fn main() { a: x = input key branch x b b b: y = phi [a: x] output net y return y }"
	tells(t, s, ended(t, p, s, api.OK, 4, []int64{0}), 0)
	tells(t, s, ended(t, p, s, api.OK, 4, []int64{3}), 3)
	// A block that leads to itself, one way or the other.
	s = "fn main() { a: jump b b: x = input key output net x branch x b c c: return x }"
	tells(t, s, ended(t, p, s, api.OK, 11, []int64{4, -1, 0, 9}), 4, -1, 0)
	s = "fn main() { a: jump b b: x = input key output net x branch x c b c: return x }"
	tells(t, s, ended(t, p, s, api.OK, 8, []int64{0, 7, 9}), 0, 7)
	// A jump back in the text.
	s = "fn main() { a: jump d b: x = const 2 output net x return x c: jump b d: jump c }"
	tells(t, s, ended(t, p, s, api.OK, 6), 2)
}

// TestPhis: all of a block take at one time what there was; they are no steps.
func TestPhis(t *testing.T) {
	p := setting(t, setup)
	for _, c := range []struct {
		text  string
		steps int
		in    []int64
		want  []int64
	}{
		// By the block that is left, in whatever order the pairs stand.
		{"fn main() { a: x = input key branch x b c b: y = const 1 jump d c: z = const 2 jump d d: w = phi [c: z, b: y] v = phi [b: x, c: z] output net w output net v return w }", 7, []int64{5}, []int64{1, 5}},
		{"fn main() { a: x = input key branch x b c b: y = const 1 jump d c: z = const 2 jump d d: w = phi [c: z, b: y] v = phi [b: x, c: z] output net w output net v return w }", 7, []int64{0}, []int64{2, 2}},
		// Two that change places, three that go round, and one that stays.
		{"fn main() { a: x = const 1 y = const 2 jump h h: v = phi [a: x, h: w] w = phi [a: y, h: v] output net v output net w i = input key branch i h c c: return v }", 16, []int64{1, 1, 0}, []int64{1, 2, 2, 1, 1, 2}},
		{"fn main() { a: x = const 1 y = const 2 z = const 3 jump h h: u = phi [a: x, h: v] v = phi [h: w, a: y] w = phi [a: z, h: u] s = phi [a: x, h: s] output net u output net v output net w output net s i = input key branch i h c c: return v }", 23, []int64{1, 1, 0}, []int64{1, 2, 3, 1, 2, 3, 1, 1, 3, 1, 2, 1}},
		// What is defined behind a phi in its own block, and by a phi ahead, counts as it was when the block was left.
		{"fn main() { a: o = const 1 jump h h: i = phi [a: o, h: j] k = phi [a: o, h: i] j = add i i output net k output net j n = input key branch n h c c: return i }", 18, []int64{1, 1, 0}, []int64{1, 2, 1, 4, 2, 8}},
		// The value ahead of a loop's last round.
		{"fn main() { a: z = const 0 o = const 1 n = const 3 jump h h: i = phi [a: z, b: j] x = phi [a: z, b: y] y = phi [a: o, b: x] t = less i n branch t b c b: output net x j = add i o jump h c: return x }", 22, nil, []int64{0, 1, 0}},
		// More than one way from one block's branch; phis of a block behind phis.
		{"fn main() { a: x = input key branch x b c b: y = phi [a: x] branch y c d c: z = phi [a: x, b: y] jump d d: w = phi [b: y, c: z] output net w return w }", 6, []int64{4}, []int64{4}},
	} {
		tells(t, c.text, ended(t, p, c.text, api.OK, c.steps, c.in), c.want...)
	}
}

// TestFuel: ahead of each step it is asked for, and so ahead of what would end the run else.
func TestFuel(t *testing.T) {
	p := setting(t, setup)
	for s, status := range map[string]api.Errno{
		"fn main() { a: x = const 5 z = const 0 y = mod x z return x }":                                              api.ErrZero,
		"array t 5 low fn main() { a: x = const 5 y = const 5 store t x x return x }":                                api.ErrIndex,
		"fn main() { a: x = const 5 z = const 0 y = input key return x }":                                            api.ErrDry,
		"fn main() { a: x = const 5 z = const 0 return x }":                                                          api.OK,
		"fn main() { a: x = const 5 x1 = call main() return x }":                                                     api.ErrDepth,
		"fn f(n) { a: return n } fn main() { a: x = const 5 y = call f(x) return x }":                                api.OK,
		"fn main() { a: x = const 5 output net x output vault x y = release x low jump b b: output net x return x }": api.OK,
	} {
		c := code(t, p, s)
		end := run(t, p, c, 1000)
		if end.Status != status {
			t.Errorf("P16.1: %q: %v", s, end)
		}
		last := end.Steps // with so much fuel the run ends as it does with more, if its end is a step
		if status != api.OK {
			last++
		}
		for fuel := range 40 {
			got := run(t, p, c, fuel)
			if fuel >= last {
				if !same(got, end) {
					t.Errorf("P16.3: %q with fuel %d: %v, want %v", s, fuel, got, end)
				}
			} else if got.Status != api.ErrFuel || got.Steps != fuel || !slices.Equal(got.Events, end.Events[:len(got.Events)]) {
				t.Errorf("P16.1: %q with fuel %d: %v", s, fuel, got)
			}
		}
	}
	// As much fuel as there may be.
	c := code(t, p, "fn main() { a: o = const 1 jump b b: branch o b c c: return o }")
	for _, fuel := range []int{0, 1, 2, 3, 1<<20 - 1, 1 << 20} {
		if got := run(t, p, c, fuel); !same(got, interp.Result{Status: api.ErrFuel, Steps: fuel}) {
			t.Errorf("P16.1: with fuel %d: %v", fuel, got)
		}
	}
	for _, fuel := range []int{-1, 1<<20 + 1, math.MaxInt, math.MinInt} {
		if r, e := interp.Run(p, c, nil, fuel); e != api.ErrArg || !same(r, interp.Result{}) {
			t.Errorf("P16.1: with fuel %d: %v, %d, want ErrArg", fuel, r, e)
		}
	}
}

// TestWhatMayNotBeRun: ErrArg and nothing else.
func TestWhatMayNotBeRun(t *testing.T) {
	p := setting(t, setup)
	right := code(t, p, "array t 2 low fn main() { a: x = const 2 branch x b c b: y = wrap t x jump d c: jump d d: z = phi [b: y, c: x] return z } fn f(n) { a: return n }")
	arg := func(p api.Policy, c api.Code, inputs [][]int64, why string) {
		t.Helper()
		if r, e := interp.Run(p, c, inputs, 100); e != api.ErrArg || !same(r, interp.Result{}) {
			t.Errorf("P16.1: %s: %v, %d, want ErrArg", why, r, e)
		}
	}
	run(t, p, right, 100)
	for i, change := range []func(c *api.Code){
		func(c *api.Code) { c.Main = 1 },
		func(c *api.Code) { c.Main = -1 },
		func(c *api.Code) { c.Main = 2 },
		func(c *api.Code) { c.Arrays = nil },
		func(c *api.Code) { c.Arrays[0].Size = 0 },
		func(c *api.Code) { c.Arrays[0].Level = 2 },
		func(c *api.Code) { c.Funcs = nil },
		func(c *api.Code) { c.Funcs[0].Vars++ },
		func(c *api.Code) { c.Funcs[0].Vars = math.MaxInt },
		func(c *api.Code) { c.Funcs[0].Blocks = nil },
		func(c *api.Code) { c.Funcs[0].Blocks[1] = nil },
		func(c *api.Code) { c.Funcs[0].Blocks[0][1].Ref = 0 },
		func(c *api.Code) { c.Funcs[0].Blocks[0][1].Alt = 1 }, // then no ways lead to the block c
		func(c *api.Code) { c.Funcs[0].Blocks[1][0].Ref = 1 },
		func(c *api.Code) { c.Funcs[0].Blocks[1][0].Args[0] = 1 },
		func(c *api.Code) { c.Funcs[0].Blocks[3][0].From[0] = 2 },
		func(c *api.Code) { c.Funcs[0].Blocks[3][0].Args[1] = 1 },
		func(c *api.Code) { c.Funcs[0].Blocks[3][1].Args[0] = 1 },
		func(c *api.Code) { c.Funcs[1].Blocks[0][0].Args = nil }, // in a function that is not called
		// Places below 0: of each kind of instruction, in what is not come to, too.
		func(c *api.Code) { c.Funcs[0].Blocks[0][0].At = -1 },
		func(c *api.Code) { c.Funcs[0].Blocks[0][1].At = -1 },
		func(c *api.Code) { c.Funcs[0].Blocks[2][0].At = math.MinInt },
		func(c *api.Code) { c.Funcs[0].Blocks[3][0].At = -1 },
		func(c *api.Code) { c.Funcs[0].Blocks[3][1].At = -1 },
		func(c *api.Code) { c.Funcs[1].Blocks[0][0].At = -1 },
	} {
		c := plain(right)
		change(&c)
		arg(p, c, nil, "the change "+strconv.Itoa(i))
	}
	for _, s := range []string{
		"fn main() { a: x = const 1 return x b: return x }",
		"fn main() { a: x = const 1 branch x b c b: jump b c: return x }",
		"fn main() { a: x = const 1 branch x a b b: return x }",
		"fn main() { a: x = const 1 jump b b: y = phi [b: x] return y }",
		"fn main() { a: y = add x x x = const 1 return y }",
		"fn main() { a: x = const 1 return x } fn f() { a: jump a }",
	} {
		arg(p, code(t, p, s), nil, s)
	}
	over := make([]int64, 4097)
	arg(p, right, [][]int64{nil, nil, nil}, "too many inputs")
	arg(p, right, [][]int64{over}, "a long input")
	arg(p, right, [][]int64{nil, over}, "a long second input")
	run(t, p, right, 100, over[:4096], over[1:])
	arg(p, api.Code{}, nil, "no code")
	arg(api.Policy{}, right, nil, "no policy")
	arg(api.Policy{}, api.Code{}, nil, "nothing")
	for i, change := range []func(p *api.Policy){
		func(p *api.Policy) { p.Depth = 0 },
		func(p *api.Policy) { p.Depth = 65 },
		func(p *api.Policy) { p.Up = p.Up[:1] },
		func(p *api.Policy) { p.Ins = append(slices.Clone(p.Ins), p.Ins[0]) },
	} {
		wrong := p
		change(&wrong)
		arg(wrong, right, nil, "the policy's change "+strconv.Itoa(i))
	}
	// Code that is right for another policy only.
	arg(setting(t, "level low\ndepth 1"), code(t, p, "fn main() { a: x = input net return x }"), nil, "another policy")
}

func TestEnded(t *testing.T) {
	for e := api.Errno(-1); e <= 30; e++ {
		want := e == api.OK || e == api.ErrZero || e == api.ErrIndex || e == api.ErrDepth
		for _, r := range []interp.Result{{Status: e}, {Status: e, Steps: 7, Events: []api.Event{{Kind: api.EOutput}}}} {
			if interp.Ended(r) != want {
				t.Errorf("P16.2: Ended(%v) = %v", r, !want)
			}
		}
	}
	if interp.Ended(interp.Result{Status: math.MaxInt}) || interp.Ended(interp.Result{Status: math.MinInt}) {
		t.Error("P16.2: of no status")
	}
}

// TestNothingIsShared: what is handed in stays as it is, in its spare room too, and an answer is nobody else's.
func TestNothingIsShared(t *testing.T) {
	p := setting(t, setup)
	c := code(t, p, "array t 2 low fn f(n, m) { a: output net m return n } fn main() { a: x = input key y = call f(x, x) branch y b c b: jump d c: jump d d: z = phi [b: y, c: x] store t z z output vault z w = release z low return w }")
	call := &c.Funcs[1].Blocks[0][1]
	args := append(slices.Clone(call.Args), 77, 78)
	call.Args = args[:2]
	room := []int64{1, 2, 3, 4}
	inputs := [][]int64{room[:1], {5}}
	before, policyBefore := plain(c), setting(t, setup)
	first := run(t, p, c, 1000, inputs...)
	second := run(t, p, c, 1000, inputs...)
	if !same(first, second) || first.Status != api.OK || len(first.Events) != 3 {
		t.Fatalf("P16.1: %v, %v", first, second)
	}
	want := slices.Clone(second.Events)
	for i := range first.Events {
		first.Events[i] = api.Event{}
	}
	if !slices.Equal(second.Events, want) || !slices.Equal(run(t, p, c, 1000, inputs...).Events, want) {
		t.Errorf("R4: a later answer is changed: %v", second.Events)
	}
	if !reflect.DeepEqual(plain(c), before) || !slices.Equal(args[2:], []int{77, 78}) {
		t.Errorf("R4: what was handed in is changed: %v, was %v", c, before)
	}
	if !slices.Equal(room, []int64{1, 2, 3, 4}) || len(inputs[0]) != 1 || inputs[1][0] != 5 || !reflect.DeepEqual(p, policyBefore) {
		t.Errorf("R4: what was handed in is changed: %v, %v, %v", room, inputs, p)
	}
}

// TestAtOneTime: runs that go on beside one another do not hang on one another.
func TestAtOneTime(t *testing.T) {
	p := setting(t, setup)
	c := code(t, p, "array t 4 low fn main() { a: o = const 1 jump h h: x = input key i = wrap t x y = load t i z = add y o store t i z output net z branch x h c c: return z }")
	in := make([]int64, 500)
	for i := range in {
		in[i] = int64(len(in) - 1 - i)
	}
	want := run(t, p, c, 1<<20, in)
	if want.Status != api.OK || len(want.Events) != 500 {
		t.Fatalf("P16.1: %v", want)
	}
	var g sync.WaitGroup
	for range 8 {
		g.Go(func() {
			for range 5 {
				if r, e := interp.Run(p, c, [][]int64{in}, 1<<20); e != api.OK || !same(r, want) {
					t.Errorf("R5: %d, %v", e, r)
				}
			}
		})
	}
	g.Wait()
}

// TestGreat: as many values, frames, steps and events as there may be.
func TestGreat(t *testing.T) {
	p := setting(t, strings.Replace(setup, "depth 8", "depth 64", 1))
	back := api.Op{Kind: api.KReturn, Dst: -1, Args: []int{0}}
	// Phis that hand on what they have by one in each round of a loop: the first one tells what the eighth one began with in the eighth round, and again when all have been gone round.
	n := 4090
	var l []api.Op
	for i := range n {
		l = append(l, api.Op{Kind: api.KPhi, Dst: 2 + i, From: []int{1, 0}, Args: []int{2 + (i+1)%n, 0}})
	}
	l[7].Args[1] = 1
	l = append(l, api.Op{Kind: api.KOutput, Dst: -1, Args: []int{2}}, api.Op{Kind: api.KBranch, Dst: -1, Ref: 1, Alt: 2, Args: []int{0}})
	c := api.Code{Funcs: []api.Body{{Vars: 2 + n, Blocks: [][]api.Op{
		{{Kind: api.KInput, Dst: 0}, {Kind: api.KInput, Dst: 1, Ref: 1}, {Kind: api.KJump, Dst: -1, Ref: 1}}, l, {back},
	}}}}
	r := run(t, p, c, 3+2*5000, []int64{3}, []int64{4})
	if r.Status != api.ErrFuel || len(r.Events) != 5000 {
		t.Fatalf("P16.1: of many phis: %d, %d events", r.Status, len(r.Events))
	}
	for i, e := range r.Events {
		if (e.Value == 4) != (i%n == 7) || e.Value != 3 && e.Value != 4 {
			t.Errorf("P16.1: of many phis the event %d is %v", i, e)
		}
	}
	// A function of many values that calls itself: each frame's own ones are as they were behind the call.
	b := api.Body{Params: 1, Vars: 1}
	add := func(x api.Op) int {
		x.Dst = b.Vars
		b.Vars++
		b.Blocks[len(b.Blocks)-1] = append(b.Blocks[len(b.Blocks)-1], x)
		return x.Dst
	}
	b.Blocks = [][]api.Op{{{Kind: api.KBranch, Dst: -1, Ref: 1, Alt: 2, Args: []int{0}}}, nil}
	one := add(api.Op{Kind: api.KConst, Num: 1})
	less := add(api.Op{Kind: api.KBin, Op: api.OpSub, Args: []int{0, one}})
	last := less
	for range 4000 {
		last = add(api.Op{Kind: api.KBin, Op: api.OpAdd, Args: []int{last, one}})
	}
	called := add(api.Op{Kind: api.KCall, Args: []int{less}})
	both := add(api.Op{Kind: api.KBin, Op: api.OpAdd, Args: []int{called, last}})
	b.Blocks[1] = append(b.Blocks[1], api.Op{Kind: api.KReturn, Dst: -1, Args: []int{both}})
	b.Blocks = append(b.Blocks, []api.Op{back})
	main := api.Body{Vars: 2, Blocks: [][]api.Op{{{Kind: api.KInput, Dst: 0}, {Kind: api.KCall, Dst: 1, Args: []int{0}}, {Kind: api.KOutput, Dst: -1, Args: []int{1}}, back}}}
	c = api.Code{Funcs: []api.Body{b, main}, Main: 1}
	// Each n from 62 to 1 adds n - 1 + 4000; n = 0 ends it in the 64th frame.
	r = run(t, p, c, 1<<20, []int64{62})
	if r.Status != api.OK || len(r.Events) != 1 || r.Events[0].Value != 62*61/2+62*4000 || r.Steps != 4+62*4006+2 {
		t.Errorf("P16.1: of deep calls: %v", r)
	}
	if r = run(t, p, c, 1<<20, []int64{63}); r.Status != api.ErrDepth || len(r.Events) != 0 || r.Steps != 2+62*4004+4003 {
		t.Errorf("P16.1: of too deep calls: %v", r)
	}
	// As many events as there may be.
	r = run(t, p, code(t, p, "fn main() { a: o = const 1 jump b b: "+strings.Repeat("output vault o ", 4000)+"branch o b c c: return o }"), 1<<20)
	if want := 1<<20 - 2 - (1<<20-2)/4001; r.Status != api.ErrFuel || r.Steps != 1<<20 || len(r.Events) != want {
		t.Errorf("P16.1: of many events: %d, %d steps, %d events, want %d", r.Status, r.Steps, len(r.Events), want)
	}
}
