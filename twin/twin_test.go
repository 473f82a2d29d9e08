package twin_test

import (
	"math"
	"reflect"
	"testing"

	"interdict/api"
	"interdict/names"
	"interdict/policy"
	"interdict/tree"
	"interdict/twin"
)

// two has a level above another one; four has two beside one another between the top and the bottom; three is one above the other.
const (
	two   = "level low\nlevel high\nflow low high\ninput key high\ninput net low\noutput net low\noutput vault high\ndepth 8"
	three = "level mid\nlevel high\nlevel low\nflow low mid\nflow mid high\ninput a low\ninput b mid\ninput c high\noutput x low\noutput y mid\noutput z high\ndepth 4"
	four  = "level left\nlevel top\nlevel bot\nlevel right\nflow bot left\nflow bot right\nflow left top\nflow right top\n" +
		"input it top\ninput il left\ninput ib bot\ninput ir right\noutput ot top\noutput ol left\noutput ob bot\noutput outr right\ndepth 3"
)

// setting is the policy of a text.
func setting(t *testing.T, s string) api.Policy {
	t.Helper()
	p, _, e := policy.Parse(s)
	if e != api.OK {
		t.Fatalf("the test's own policy %q is refused: %d", s, e)
	}
	return p
}

// code is that of a program's text.
func code(t *testing.T, p api.Policy, s string) api.Code {
	t.Helper()
	q, at, e := tree.Parse(s)
	if e != api.OK {
		t.Fatalf("the test's own program %q is refused: %d at %d", s, e, at)
	}
	c, at, e := names.Resolve(p, q)
	if e != api.OK {
		t.Fatalf("the test's own program %q has a wrong name: %d at %d", s, e, at)
	}
	return c
}

func TestTell(t *testing.T) {
	p := setting(t, two)
	const low, high = 0, 1
	all := twin.Twin{Ended: true, Outputs: true, Releases: true, Status: true}
	but := func(change func(w *twin.Twin)) twin.Twin {
		w := all
		change(&w)
		return w
	}
	for _, c := range []struct {
		text  string
		level int
		a, b  [][]int64
		fuel  int
		want  twin.Twin
	}{
		// The chapter's examples.
		{"fn main() { a: k = input key output net k return k }", low, [][]int64{{1}}, [][]int64{{2}}, 100, but(func(w *twin.Twin) { w.Outputs = false })},
		{"fn main() { a: k = input key output vault k return k }", low, [][]int64{{1}}, [][]int64{{2}}, 100, all},
		// A level above sees the same, if inputs are: other lists of inputs than that need not be.
		{"fn main() { a: k = input key output vault k output net k return k }", high, [][]int64{{1}, nil}, [][]int64{{1}}, 100, all},
		// Outputs: their values, their order, the output, how many there are.
		{"fn main() { a: k = input key c = const 3 output net c output net k return k }", low, [][]int64{{1}}, [][]int64{{2}}, 100, but(func(w *twin.Twin) { w.Outputs = false })},
		{"fn main() { a: k = input key x = sub k k l = const 1 m = sub l k output net k output net m return k }", low, [][]int64{{0}}, [][]int64{{1}}, 100, but(func(w *twin.Twin) { w.Outputs = false })},
		{"fn main() { a: k = input key branch k b c b: output net k jump c c: return k }", low, [][]int64{{0}}, [][]int64{{1}}, 100, but(func(w *twin.Twin) { w.Outputs = false })},
		{"fn main() { a: k = input key c = const 1 output net c branch k b d b: output net k jump d d: return k }", low, [][]int64{{1}}, [][]int64{{0}}, 100, but(func(w *twin.Twin) { w.Outputs = false })},
		// Where an output is put out from does not count; nor what stands between, which the level does not see.
		{"fn f(n) { a: output net n return n } fn main() { a: k = input key c = const 5 branch k b d b: output net c jump e d: x = call f(c) output vault k y = release k high jump e e: return k }", low, [][]int64{{0}}, [][]int64{{1}}, 100, all},
		// Releases: their values, their places, their functions, their levels, how many there are.
		{"fn main() { a: k = input key x = release k low return k }", low, [][]int64{{1}}, [][]int64{{2}}, 100, but(func(w *twin.Twin) { w.Releases = false })},
		{"fn main() { a: k = input key x = release k high return k }", low, [][]int64{{1}}, [][]int64{{2}}, 100, all},
		{"fn main() { a: k = input key c = const 5 branch k b d b: x = release c low jump e d: y = release c low jump e e: return k }", low, [][]int64{{0}}, [][]int64{{1}}, 100, but(func(w *twin.Twin) { w.Releases = false })},
		{"fn main() { a: k = input key c = const 5 branch k b d b: x = release c high jump e d: y = release c low jump e e: return k }", low, [][]int64{{1}}, [][]int64{{2}}, 100, all},
		{"fn main() { a: k = input key c = const 5 branch k b d b: x = release c high jump e d: y = release c low jump e e: return k }", low, [][]int64{{1}}, [][]int64{{0}}, 100, but(func(w *twin.Twin) { w.Releases = false })},
		{"fn main() { a: k = input key x = release k low branch x b d b: y = release x low jump d d: output net k return k }", low, [][]int64{{0}}, [][]int64{{1}}, 100, but(func(w *twin.Twin) { w.Outputs, w.Releases = false, false })},
		// The Status, of runs that ended and of others.
		{"fn main() { a: k = input key c = const 1 x = div c k return k }", low, [][]int64{{0}}, [][]int64{{1}}, 100, but(func(w *twin.Twin) { w.Status = false })},
		{"fn main() { a: k = input key c = const 1 x = div c k return k }", low, [][]int64{{0}}, [][]int64{{0}}, 100, all},
		{"array t 1 low fn main() { a: k = input key c = const 1 branch k b d b: x = load t c jump e d: y = mod c k jump e e: return k }", low, [][]int64{{0}}, [][]int64{{1}}, 100, but(func(w *twin.Twin) { w.Status = false })},
		{"fn f() { a: x = call f() return x } fn main() { a: k = input key branch k b c b: x = call f() jump c c: return k }", low, [][]int64{{0}}, [][]int64{{1}}, 100, but(func(w *twin.Twin) { w.Status = false })},
		{"fn f() { a: x = call f() return x } fn main() { a: x = call f() return x }", low, nil, nil, 100, all},
		{"fn main() { a: k = input key n = input net return k }", low, [][]int64{{0}, {1}}, [][]int64{nil, {1}}, 100, but(func(w *twin.Twin) { w.Ended, w.Status = false, false })},
		{"fn main() { a: k = input key n = input net return k }", low, [][]int64{nil, {1}}, [][]int64{{0}, {1}}, 100, but(func(w *twin.Twin) { w.Ended, w.Status = false, false })},
		{"fn main() { a: k = input key n = input net return k }", low, nil, nil, 100, but(func(w *twin.Twin) { w.Ended = false })},
		{"fn main() { a: k = input key jump b b: branch k b c c: return k }", low, [][]int64{{0}}, [][]int64{{1}}, 100, but(func(w *twin.Twin) { w.Ended, w.Status = false, false })},
		// The fuel: none, just what one run needs, as much as may be.
		{"fn main() { a: k = input key output net k return k }", low, [][]int64{{1}}, [][]int64{{2}}, 0, but(func(w *twin.Twin) { w.Ended = false })},
		{"fn main() { a: k = input key output net k return k }", low, [][]int64{{1}}, [][]int64{{2}}, 2, but(func(w *twin.Twin) { w.Ended, w.Outputs = false, false })},
		{"fn main() { a: k = input key branch k b c b: jump c c: return k }", low, [][]int64{{0}}, [][]int64{{1}}, 3, but(func(w *twin.Twin) { w.Ended, w.Status = false, false })},
		{"fn main() { a: k = input key jump b b: branch k b c c: return k }", low, [][]int64{{0}}, [][]int64{{1}}, api.MaxFuel, but(func(w *twin.Twin) { w.Ended, w.Status = false, false })},
	} {
		got, e := twin.Tell(p, code(t, p, c.text), c.level, c.a, c.b, c.fuel)
		if e != api.OK || got != c.want {
			t.Errorf("P24.1: Tell of %q, at %d, with %v, %v and %d = %v, %d, want %v", c.text, c.level, c.a, c.b, c.fuel, got, e, c.want)
		}
	}
}

// TestParts: of an output its number and its value count, of a release its level, its value, its function and its place.
func TestParts(t *testing.T) {
	p := setting(t, two+"\noutput log low\nlevel mid\nflow low mid\nflow mid high")
	const low, mid = 0, 2
	outputs := code(t, p, "fn main() { a: k = input key c = const 1 branch k b d b: output net c jump e d: output log c jump e e: return k }")
	releases := code(t, p, "fn f(c) { a: x = release c low return x } fn main() { a: k = input key c = const 1 branch k b d b: x = call f(c) jump e d: y = release c low jump e e: return k }")
	levels := code(t, p, "fn main() { a: k = input key c = const 1 branch k b d b: x = release c low jump e d: y = release c mid jump e e: return k }")
	// Code may have one place for all its instructions.
	placeless := func(c api.Code) api.Code {
		for _, f := range c.Funcs {
			for _, l := range f.Blocks {
				for i := range l {
					l[i].At = 7
				}
			}
		}
		return c
	}
	is := twin.Twin{Ended: true, Outputs: true, Releases: true, Status: true}
	other := is
	other.Releases = false
	for _, c := range []struct {
		what  string
		code  api.Code
		level int
		a, b  int64
		want  twin.Twin
	}{
		{"outputs to the same", outputs, low, 1, 2, is},
		{"outputs to others", outputs, low, 0, 1, twin.Twin{Ended: true, Releases: true, Status: true}},
		{"releases of one function", releases, low, 1, 2, is},
		{"releases of two", releases, low, 0, 1, other},
		{"releases of two at one place", placeless(releases), low, 0, 1, other},
		{"releases to two levels", placeless(levels), mid, 0, 1, other},
		{"releases to one level at one place", placeless(code(t, p, "fn main() { a: k = input key c = const 1 branch k b d b: x = release c low jump e d: y = release c low jump e e: return k }")), low, 0, 1, is},
	} {
		if got, e := twin.Tell(p, c.code, c.level, [][]int64{{c.a}}, [][]int64{{c.b}}, 100); e != api.OK || got != c.want {
			t.Errorf("P24.1: Tell of %s = %v, %d, want %v", c.what, got, e, c.want)
		}
	}
}

// TestLevels: one pair of runs, seen by levels that stand beside and above one another.
func TestLevels(t *testing.T) {
	p := setting(t, four)
	const text = "fn main() { a: x = input il y = input ir output ol x output outr y output ob y z = release x right w = release y left return x }"
	a, b := [][]int64{nil, {1}, nil, {5}}, [][]int64{nil, {2}, nil, {5}}
	for name, want := range map[string]twin.Twin{
		"bot":   {Ended: true, Outputs: true, Releases: true, Status: true},
		"right": {Ended: true, Outputs: true, Status: true},
	} {
		level, _ := policy.Level(p, name)
		if got, e := twin.Tell(p, code(t, p, text), level, a, b, 100); e != api.OK || got != want {
			t.Errorf("P24.1: Tell at %s = %v, %d, want %v", name, got, e, want)
		}
	}
	for _, name := range []string{"left", "top"} {
		level, _ := policy.Level(p, name)
		if got, e := twin.Tell(p, code(t, p, text), level, a, b, 100); e != api.ErrArg || got != (twin.Twin{}) {
			t.Errorf("P24.1: Tell at %s = %v, %d, want ErrArg", name, got, e)
		}
	}
}

// refused holds what is said of arguments of which one may not be.
func refused(t *testing.T, p api.Policy, c api.Code, level int, a, b [][]int64, fuel int) {
	t.Helper()
	if w, e := twin.Tell(p, c, level, a, b, fuel); e != api.ErrArg || w != (twin.Twin{}) {
		t.Errorf("P24.1: Tell(%v, %v, %d, %d lists, %d lists, %d) = %v, %d, want ErrArg", p, c, level, len(a), len(b), fuel, w, e)
	}
}

func TestRefused(t *testing.T) {
	p := setting(t, two)
	const text = "array t 4 low fn main() { a: k = input key y = call f(k) z = release k low return y } fn f(n) { a: return n }"
	c := code(t, p, text)
	a, b := [][]int64{{1}, {3}}, [][]int64{{2}, {3}}
	if _, e := twin.Tell(p, c, 0, a, b, 100); e != api.OK {
		t.Fatalf("P24.1: Tell of %q: %d", text, e)
	}
	for _, level := range []int{-1, 2, math.MinInt, math.MaxInt} {
		refused(t, p, c, level, a, b, 100)
		refused(t, p, c, level, a, a, 100)
	}
	for _, fuel := range []int{-1, api.MaxFuel + 1, math.MinInt, math.MaxInt} {
		refused(t, p, c, 0, a, b, fuel)
	}
	// Inputs that are not alike: in a value, in how many there are; or that may not be, either of them.
	refused(t, p, c, 1, a, b, 100)
	refused(t, p, c, 0, a, [][]int64{{1}, {4}}, 100)
	refused(t, p, c, 0, a, [][]int64{{1}, {3, 3}}, 100)
	refused(t, p, c, 0, a, [][]int64{{1}}, 100)
	refused(t, p, c, 0, a, nil, 100)
	long := make([]int64, api.MaxInput+1)
	refused(t, p, c, 0, [][]int64{long, {3}}, b, 100)
	refused(t, p, c, 0, a, [][]int64{long, {3}}, 100)
	refused(t, p, c, 0, [][]int64{{1}, {3}, nil}, b, 100)
	refused(t, p, c, 0, a, [][]int64{{1}, {3}, nil}, 100)
	if _, e := twin.Tell(p, c, 0, [][]int64{long[1:], {3}}, b, 100); e != api.OK {
		t.Errorf("P24.1: Tell with as many numbers as may be: %d", e)
	}
	// Code and policies.
	for _, change := range []func(c *api.Code){
		func(c *api.Code) { *c = api.Code{} },
		func(c *api.Code) { c.Main = 1 },
		func(c *api.Code) { c.Funcs[0].Blocks[0][0].At = -1 },
		func(c *api.Code) { c.Funcs[1].Blocks[0][0].At = math.MinInt },
		func(c *api.Code) { c.Funcs[0].Blocks[0][1].Args = nil },
		func(c *api.Code) { c.Funcs[0].Blocks[0][1].Args[0] = 1 },
		func(c *api.Code) { c.Funcs[0].Blocks[0] = nil },
		func(c *api.Code) { c.Funcs[0].Vars = math.MaxInt },
	} {
		c := code(t, p, text)
		change(&c)
		refused(t, p, c, 0, a, b, 100)
	}
	refused(t, api.Policy{}, c, 0, nil, nil, 100)
	wrong := p
	wrong.Depth = 65
	refused(t, wrong, c, 0, a, b, 100)
}

func TestSafe(t *testing.T) {
	p := setting(t, two)
	for _, c := range []struct {
		text           string
		accepted, none bool
	}{
		{"fn main() { a: k = input key output vault k return k }", true, true},
		{"fn main() { a: k = input key output net k return k }", false, true},
		{"fn main() { a: k = input key x = release k low output net x return x }", true, false},
		{"fn main() { a: k = input key x = release k low output net k return x }", false, false},
		{"fn main() { a: k = input net x = release k high return x }", true, false},
		// What does not count is not asked.
		{"fn main() { a: k = input net return k } fn f() { a: k = input key x = release k low output net k return x }", true, true},
		{"fn main() { a: x = call f() return x } fn f() { a: k = input key x = release k low output net k return x }", false, false},
		// Faults.
		{"fn main() { a: x = const 0 return x b: return x }", false, false},
		{"fn main() { a: y = release x low x = const 1 return y }", false, false},
		{"fn main() { a: x = const 0 return x } fn f() { a: jump a }", false, false},
	} {
		if accepted, none := twin.Safe(p, code(t, p, c.text)); accepted != c.accepted || none != c.none {
			t.Errorf("P24.2: Safe of %q = %v, %v, want %v, %v", c.text, accepted, none, c.accepted, c.none)
		}
	}
	for _, c := range []api.Code{{}, {Main: -1}, {Funcs: []api.Body{{}}}} {
		if accepted, none := twin.Safe(p, c); accepted || none {
			t.Errorf("P24.2: Safe of %v = %v, %v", c, accepted, none)
		}
	}
	if accepted, none := twin.Safe(api.Policy{}, code(t, p, "fn main() { a: x = const 0 return x }")); accepted || none {
		t.Errorf("P24.2: Safe of an empty policy = %v, %v", accepted, none)
	}
}

// TestSame: what is handed in is not changed, the spare room behind it neither; what is told is the same again.
func TestSame(t *testing.T) {
	p := setting(t, two)
	const text = "array t 4 low fn main() { a: k = input key n = input net i = wrap t n store t i n y = call f(k, n) z = release k low output net n return y } fn f(n, m) { a: output net m return n }"
	c := code(t, p, text)
	fill := func(key int64) [][]int64 {
		return [][]int64{append(make([]int64, 0, 4), key, 8), {5, 6}, {7}}
	}
	a, b := fill(1), fill(2)
	first, e := twin.Tell(p, c, 0, a[:2], b[:2], 100)
	again, f := twin.Tell(p, c, 0, a[:2], b[:2], 100)
	if e != api.OK || f != api.OK || first != again || first != (twin.Twin{Ended: true, Outputs: true, Status: true}) {
		t.Errorf("R5: Tell of %q = %v, %d, then %v, %d", text, first, e, again, f)
	}
	if !reflect.DeepEqual(a, fill(1)) || !reflect.DeepEqual(b, fill(2)) || a[0][:3][2] != 0 {
		t.Errorf("R4: inputs are changed: %v, %v", a, b)
	}
	if !reflect.DeepEqual(c, code(t, p, text)) || !reflect.DeepEqual(p, setting(t, two)) {
		t.Errorf("R4: what was handed in is changed: %v, %v", p, c)
	}
}
