package summary_test

import (
	"math"
	"reflect"
	"slices"
	"strconv"
	"strings"
	"testing"

	"interdict/api"
	"interdict/names"
	"interdict/policy"
	"interdict/ssa"
	"interdict/summary"
	"interdict/tree"
)

// two has a level above another one; four has two beside one another between them, none with the number that its height would be.
const (
	two  = "level low\nlevel high\nflow low high\ninput key high\ninput net low\noutput net low\noutput vault high\ndepth 8"
	four = "level left\nlevel top\nlevel bot\nlevel right\nflow bot left\nflow bot right\nflow left top\nflow right top\n" +
		"input it top\ninput il left\ninput ib bot\ninput ir right\noutput ot top\noutput ol left\noutput ob bot\noutput outr right\ndepth 3"
)

// setting is the policy of a text.
func setting(t *testing.T, s string) api.Policy {
	t.Helper()
	p, _, e := policy.Parse(s)
	if e != api.OK {
		t.Fatalf("the test's own policy %q is refused: %d", s, e)
	}
	return p
}

// code is that of a program's text.
func code(t *testing.T, p api.Policy, s string) api.Code {
	t.Helper()
	q, at, e := tree.Parse(s)
	if e != api.OK {
		t.Fatalf("the test's own program %q is refused: %d at %d", s, e, at)
	}
	c, at, e := names.Resolve(p, q)
	if e != api.OK {
		t.Fatalf("the test's own program %q has a wrong name: %d at %d", s, e, at)
	}
	return c
}

// copied is code in memory of its own, each list of which has room behind its end, in which something stands.
func copied(c api.Code) api.Code {
	behind := api.Op{Kind: 99, Num: 99}
	d := api.Code{Arrays: slices.Clone(c.Arrays), Funcs: slices.Clone(c.Funcs), Main: c.Main}
	for i, b := range d.Funcs {
		d.Funcs[i].Blocks = slices.Clone(b.Blocks)
		for j, l := range b.Blocks {
			l = append(slices.Clone(l), behind)
			for k, x := range l {
				l[k].Args, l[k].From = append(slices.Clone(x.Args), 99, 99, 99)[:len(x.Args)], append(slices.Clone(x.From), 99, 99, 99)[:len(x.From)]
			}
			d.Funcs[i].Blocks[j] = l[:len(l)-1]
		}
	}
	return d
}

// whole is all that stands in code, behind the lists' ends, too.
func whole(c api.Code) api.Code {
	d := api.Code{Arrays: c.Arrays, Main: c.Main}
	for _, b := range c.Funcs {
		var blocks [][]api.Op
		for _, l := range b.Blocks {
			l = slices.Clone(l[:len(l)+1])
			for k, x := range l {
				l[k].Args, l[k].From = x.Args[:len(x.Args)+3], x.From[:len(x.From)+3]
			}
			blocks = append(blocks, l)
		}
		d.Funcs = append(d.Funcs, api.Body{Params: b.Params, Vars: b.Vars, Blocks: blocks})
	}
	return d
}

// refused holds what is said of code with a fault, and of such as may not be.
func refused(t *testing.T, p api.Policy, c api.Code) {
	t.Helper()
	if l, e := summary.All(p, c); len(l) != 0 || e != api.ErrArg {
		t.Fatalf("P20.1: All(%v, %v) = %v, %d, want ErrArg", p, c, l, e)
	}
	if l, e := summary.Sinks(p, c); len(l) != 0 || e != api.ErrArg {
		t.Fatalf("P20.2: Sinks(%v, %v) = %v, %d, want ErrArg", p, c, l, e)
	}
}

// check holds what is said of code without a fault against the chapter.
func check(t *testing.T, p api.Policy, c api.Code) *reading {
	t.Helper()
	if !ssa.Right(p, c) {
		t.Fatalf("the test's own code has a fault: %v", c)
	}
	given := copied(c)
	before := whole(copied(c))
	r := read(p, c)
	l, e := summary.All(p, given)
	if e != api.OK || !reflect.DeepEqual(l, r.all) {
		t.Fatalf("P20.1: All(%v, %v) = %v, %d, want %v", p, c, l, e, r.all)
	}
	sinks, e := summary.Sinks(p, given)
	if e != api.OK || !slices.Equal(sinks, r.sinks) {
		t.Fatalf("P20.2: Sinks(%v, %v) = %v, %d, want %v", p, c, sinks, e, r.sinks)
	}
	if !reflect.DeepEqual(whole(given), before) {
		t.Fatalf("R4: what was handed in is changed: %v, was %v", given, c)
	}
	// What is done to one answer, up to the end of the room of its lists, is not to be seen in another one, nor elsewhere in itself.
	strange := api.Label{Level: 99, Mask: 99}
	for i := range l {
		for _, list := range []*[]api.Label{&l[i].Values, &l[i].Blocks} {
			all := (*list)[:cap(*list)]
			for k := range all {
				if all[k] == strange {
					t.Fatalf("R4: two lists of one answer share what they stand in: of %v", c)
				}
				all[k] = strange
			}
		}
	}
	if again, _ := summary.All(p, given); !reflect.DeepEqual(again, r.all) {
		t.Fatalf("R4: a later answer is changed: All(%v) = %v, want %v", c, again, r.all)
	}
	return r
}

// shown is a label's text: its level's name, and its bits.
func shown(p api.Policy, l api.Label) string {
	s := p.Levels[l.Level] + ":"
	for bit := range 64 {
		if l.Mask>>bit&1 == 1 {
			s += strconv.Itoa(bit)
		}
	}
	return s
}

// row is the text of labels.
func row(p api.Policy, l []api.Label) string {
	var words []string
	for _, x := range l {
		words = append(words, shown(p, x))
	}
	return strings.Join(words, " ")
}

// text is that of a summary: values, blocks, result, and caps, but for those that are the level high.
func text(p api.Policy, s summary.Summary, high string) string {
	caps := ""
	for bit, level := range s.Caps {
		if p.Levels[level] != high {
			caps += " " + strconv.Itoa(bit) + ":" + p.Levels[level]
		}
	}
	return row(p, s.Values) + " | " + row(p, s.Blocks) + " | " + shown(p, s.Result) + " |" + caps
}

// sinkText is that of a sink, but for its At.
func sinkText(p api.Policy, s summary.Sink) string {
	kind := []string{"", "output", "input", "store", "trap", "release", "argument", "call", "depth"}[s.Kind]
	return kind + strconv.Itoa(s.Arg) + " " + strconv.Itoa(s.Fn) + " " + shown(p, s.Label) + " " + p.Levels[s.Bound]
}

func TestLabels(t *testing.T) {
	p := setting(t, four)
	for _, c := range []struct {
		text string
		want []string // of each function
	}{
		{"fn main() { a: x = const 7 return x }", []string{"bot:6 | bot:6 | bot:6 |"}},
		// What a value is made of; what it was released from does not count, nor what is stored.
		{"array t 4 left fn main() { a: x = input ir y = input il z = add x y w = release z right u = eq w w return u }",
			[]string{"right:6 left:6 top:6 right:6 right:6 | bot:6 | right:6 | 6:bot"}},
		{"array t 4 left array u 4 bot fn f(i, n) { a: w = wrap t i x = load t w y = load u w z = wrap u n store u w n return y } fn main() { a: x = const 1 return x }",
			[]string{"bot:0 bot:1 bot:06 left:06 bot:06 bot:16 | bot:6 | bot:06 | 0:bot 1:bot 6:bot", "bot:6 | bot:6 | bot:6 |"}},
		{"array t 4 left fn main() { a: x = input ir i = wrap t x y = load t i return y }", []string{"right:6 right:6 top:6 | bot:6 | top:6 | 6:right"}},
		// Divisions, loads and stores by what may trap: the caps of all that it hangs on are the bottom.
		{"fn f(n, m) { a: x = div n m return x } fn main() { a: x = const 1 return x }", []string{"bot:0 bot:1 bot:016 | bot:6 | bot:016 | 1:bot 6:bot", "bot:6 | bot:6 | bot:6 |"}},
		{"array t 4 left fn f(n, m, i) { a: x = load t n store t m i return x } fn main() { a: x = const 1 return x }", []string{"bot:0 bot:1 bot:2 left:06 | bot:6 | left:06 | 0:bot 1:bot 2:left 6:bot", "bot:6 | bot:6 | bot:6 |"}},
		// A cap is below all that bounds it, though none of these may be that level.
		{"fn f(n) { a: output ol n output outr n output ot n return n } fn main() { a: x = const 1 return x }", []string{"bot:0 | bot:6 | bot:06 | 0:bot 6:bot", "bot:6 | bot:6 | bot:6 |"}},
		{"fn f(n, m) { a: output ol n output ot n output ot m return n } fn main() { a: x = const 1 return x }", []string{"bot:0 bot:1 | bot:6 | bot:06 | 0:left 6:left", "bot:6 | bot:6 | bot:6 |"}},
		// Where a fork parts, as long as its ways have not come together; a phi hangs on what it branches on.
		{"fn f(n, m) { a: x = const 1 branch n b c b: y = const 2 jump d c: z = const 3 jump d d: w = phi [b: y, c: x] v = const 4 return v } fn main() { a: x = const 1 return x }",
			[]string{"bot:0 bot:1 bot:6 bot:06 bot:06 bot:06 bot:6 | bot:6 bot:06 bot:06 bot:6 | bot:6 |", "bot:6 | bot:6 | bot:6 |"}},
		{"fn f(n, m) { a: x = const 1 branch n b c b: jump c c: y = phi [a: m, b: x] return y } fn main() { a: x = const 1 return x }",
			[]string{"bot:0 bot:1 bot:6 bot:016 | bot:6 bot:06 bot:6 | bot:016 |", "bot:6 | bot:6 | bot:6 |"}},
		// Ways that come together at the end alone.
		{"fn f(n, m) { a: branch n b c b: return m c: x = const 1 return x } fn main() { a: x = const 1 return x }",
			[]string{"bot:0 bot:1 bot:06 | bot:6 bot:06 bot:06 | bot:016 |", "bot:6 | bot:6 | bot:6 |"}},
		// A branch with but one way is no fork.
		{"fn f(n, m) { a: branch n b b b: x = phi [a: m] y = const 1 return y } fn main() { a: x = const 1 return x }",
			[]string{"bot:0 bot:1 bot:16 bot:6 | bot:6 bot:6 | bot:6 |", "bot:6 | bot:6 | bot:6 |"}},
		// A loop hangs on what it is left by; what comes behind it does not.
		{"fn f(n, m) { a: z = const 0 jump b b: i = phi [a: z, c: j] x = sub i n branch x c d c: o = const 1 j = add i o jump b d: y = const 1 return y } fn main() { a: x = const 1 return x }",
			[]string{"bot:0 bot:1 bot:6 bot:06 bot:06 bot:06 bot:06 bot:6 | bot:6 bot:06 bot:06 bot:6 | bot:6 |", "bot:6 | bot:6 | bot:6 |"}},
		// A fork in another one's region.
		{"fn f(n, m) { a: branch n b c b: branch m d c d: x = const 1 jump c c: y = const 1 return y } fn main() { a: x = input il branch x b c b: y = const 1 jump c c: return x }",
			[]string{"bot:0 bot:1 bot:016 bot:6 | bot:6 bot:06 bot:016 bot:6 | bot:6 |", "left:6 left:6 | bot:6 left:6 bot:6 | left:6 | 6:left"}},
		// A call's value is what the result becomes.
		{"fn f(n, m) { a: return n } fn main() { a: x = input il y = input ir z = call f(x, y) w = call f(y, x) v = call g(x) return z } fn g(n) { a: x = const 1 return x }",
			[]string{"bot:0 bot:1 | bot:6 | bot:06 |", "left:6 right:6 left:6 right:6 bot:6 | bot:6 | left:6 | 6:bot", "bot:0 bot:6 | bot:6 | bot:6 |"}},
		{"fn f(n, m) { a: x = input il y = add x m return y } fn g(n, m) { a: branch n b c b: x = call f(n, m) jump c c: y = call f(m, n) return y } fn main() { a: x = const 1 return x }",
			[]string{"bot:0 bot:1 left:6 left:16 | bot:6 | left:16 | 6:left", "bot:0 bot:1 left:016 left:06 | bot:6 bot:06 bot:6 | left:06 | 0:left 6:left", "bot:6 | bot:6 | bot:6 |"}},
		// Functions that call themselves, or one another: their results are no more than they must be. (What no run comes to is not deep.)
		{"fn f(n, m) { a: branch n b c b: x = call f(m, n) return x c: return n } fn main() { a: x = const 1 return x }",
			[]string{"bot:0 bot:1 bot:016 | bot:6 bot:06 bot:06 | bot:016 |", "bot:6 | bot:6 | bot:6 |"}},
		{"fn f(n) { a: x = call g(n) return x } fn g(n) { a: x = call f(n) return x } fn main() { a: x = const 1 return x }",
			[]string{"bot:0 bot:6 | bot:6 | bot:6 |", "bot:0 bot:6 | bot:6 | bot:6 |", "bot:6 | bot:6 | bot:6 |"}},
		{"fn f(n, m) { a: x = call f(m, n) output ol n return x } fn g(n) { a: x = call h(n) output outr n return x } fn h(n) { a: x = call g(n) output ot n return x } fn main() { a: x = const 1 return x }",
			[]string{"bot:0 bot:1 bot:6 | bot:6 | bot:6 | 0:left 1:left 6:left", "bot:0 bot:6 | bot:6 | bot:6 | 0:right 6:right", "bot:0 bot:6 | bot:6 | bot:6 | 0:right 6:right", "bot:6 | bot:6 | bot:6 |"}},
		// Main may be called, too; a call where it may be one too many hangs on its place.
		{"fn main() { a: x = call main() return x }", []string{"bot:6 | bot:6 | bot:6 | 6:bot"}},
		{"fn main() { a: x = const 1 y = call f(x) return y } fn f(n) { a: branch n b c b: x = call f(n) return x c: return n }",
			[]string{"bot:6 bot:6 | bot:6 | bot:6 | 6:bot", "bot:0 bot:06 | bot:6 bot:06 bot:06 | bot:06 | 0:bot 6:bot"}},
		// Six parameters, and the place.
		{"fn f(a, b, c, d, e, g) { a: x = add a g return x } fn main() { a: x = input il z = const 0 y = call f(z, x, x, x, x, z) w = call f(z, z, z, z, z, x) return y }",
			[]string{"bot:0 bot:1 bot:2 bot:3 bot:4 bot:5 bot:056 | bot:6 | bot:056 |", "left:6 bot:6 bot:6 left:6 | bot:6 | bot:6 | 6:left"}},
	} {
		d := code(t, p, c.text)
		l, e := summary.All(p, d)
		if e != api.OK || len(l) != len(c.want) {
			t.Errorf("P20.1: All of %q = %v, %d", c.text, l, e)
			continue
		}
		for fn, s := range l {
			if got := text(p, s, "top"); got != c.want[fn] {
				t.Errorf("P20.1: All of %q, function %d:\n%s, want\n%s", c.text, fn, got, c.want[fn])
			}
		}
		check(t, p, d)
	}
}

func TestSinks(t *testing.T) {
	p := setting(t, four)
	for _, c := range []struct {
		text string
		want []string
	}{
		{"fn main() { a: x = const 7 return x }", nil},
		// Each kind; the order is that of the table at one instruction.
		{"array t 4 left fn main() { a: x = input il y = release x bot store t x y z = load t x w = mod z y output outr w return w }", []string{
			"input0 0 bot:6 left", "release0 0 bot:6 bot", "store0 0 left:6 left", "trap0 0 left:6 bot", "trap0 0 left:6 bot", "trap0 0 bot:6 bot", "output0 0 left:6 right"}},
		{"array t 4 left fn main() { a: x = input it i = wrap t x y = input ir store t i y z = load t i return z }", []string{
			"input0 0 bot:6 top", "input0 0 bot:6 right", "store0 0 top:6 left"}},
		// The block counts, of values that come from elsewhere, too.
		{"fn main() { a: x = input il c = const 1 branch x b d b: output ob c y = input ir z = release c bot w = div c c v = div c x jump d d: return x }", []string{
			"input0 0 bot:6 left", "output0 0 left:6 bot", "input0 0 left:6 right", "release0 0 left:6 bot", "trap0 0 left:6 bot"}},
		// Arguments one by one, then the place; bounds are the caps.
		{"fn main() { a: x = input il y = input it z = call f(x, y) return z } fn f(n, m) { a: output outr m return n }", []string{
			"input0 0 bot:6 left", "input0 0 bot:6 top", "argument0 0 left:6 top", "argument1 0 top:6 right", "call0 0 bot:6 right", "output0 1 bot:16 right"}},
		{"fn main() { a: x = input il branch x b c b: y = call f() jump c c: return x } fn f() { a: x = const 0 output outr x return x }", []string{
			"input0 0 bot:6 left", "call0 0 left:6 right", "output0 1 bot:6 right"}},
		// An argument's label is its own, whatever the block's.
		{"fn main() { a: c = const 1 x = input il branch x b d b: y = call f(c) jump d d: return x } fn f(n) { a: return n }", []string{
			"input0 0 bot:6 left", "argument0 0 bot:6 top", "call0 0 left:6 top"}},
		// A bound of a bound.
		{"fn main() { a: x = input il y = call f(x) return y } fn f(n) { a: x = call g(n) return x } fn g(n) { a: output ob n return n }", []string{
			"input0 0 bot:6 left", "argument0 0 left:6 bot", "call0 0 bot:6 bot", "argument0 1 bot:0 bot", "call0 1 bot:6 bot", "output0 2 bot:06 bot"}},
		// A function that calls itself, or is called by as many as there may be.
		{"fn main() { a: x = input il y = call f(x) return y } fn f(n) { a: branch n b c b: x = call f(n) return x c: return n }", []string{
			"input0 0 bot:6 left", "argument0 0 left:6 bot", "call0 0 bot:6 bot", "argument0 1 bot:0 bot", "call0 1 bot:06 bot", "depth0 1 bot:06 bot"}},
		{"fn main() { a: x = call f() return x } fn f() { a: x = call g() return x } fn g() { a: x = call h() return x } fn h() { a: x = const 1 return x }", []string{
			"call0 0 bot:6 bot", "call0 1 bot:6 bot", "call0 2 bot:6 top", "depth0 2 bot:6 bot"}},
		{"fn f(n) { a: x = call f(n) return x } fn main() { a: x = const 1 return x }", []string{"argument0 0 bot:0 top", "call0 0 bot:6 top"}},
		// By function, block, instruction.
		{"fn f() { a: x = input il jump b b: y = input ir return y } fn main() { a: x = input it jump c b: y = input ib return x c: output ol x z = call f() jump b } fn g() { a: x = input ib return x }", []string{
			"input0 0 bot:6 left", "input0 0 bot:6 right", "input0 1 bot:6 top", "input0 1 bot:6 bot", "output0 1 top:6 left", "call0 1 bot:6 bot", "input0 2 bot:6 bot"}},
	} {
		d := code(t, p, c.text)
		l, e := summary.Sinks(p, d)
		var got []string
		for _, s := range l {
			got = append(got, sinkText(p, s))
		}
		if e != api.OK || !slices.Equal(got, c.want) {
			t.Errorf("P20.2: Sinks of %q, %d:\n%q, want\n%q", c.text, e, got, c.want)
		}
		check(t, p, d)
	}
}

// TestExamples are the chapter's, and the document's, as far as a sink tells of them.
func TestExamples(t *testing.T) {
	p := setting(t, two)
	c := code(t, p, "fn f(a) { x: output net a return a } fn main() { x: k = input key y = call f(k) return y }")
	l, e := summary.All(p, c)
	if e != api.OK || l[0].Result != (api.Label{Level: 0, Mask: 65}) || l[0].Caps != [7]int{0, 1, 1, 1, 1, 1, 0} || l[1].Caps != [7]int{1, 1, 1, 1, 1, 1, 0} {
		t.Errorf("P20.1: %v, %d", l, e)
	}
	s, e := summary.Sinks(p, c)
	if want := (summary.Sink{Kind: api.SArg, Fn: 1, At: 66, Label: api.Label{Level: 1, Mask: 64}, Bound: 0}); e != api.OK || len(s) != 4 || s[2] != want {
		t.Errorf("P20.2: %v, %d, want the third %v", s, e, want)
	}
	check(t, p, c)
	for _, c := range []struct {
		text     string
		kind     uint8
		at, many int // where the one sink is that is above its bound, of so many
	}{
		{"fn main() { a: k = input key output net k return k }", api.SOutput, 29, 2},
		{"fn main() { a: k = input key output vault k return k }", 0, 0, 2},
		{"fn main() { a: k = input key x = release k low output net x return x }", 0, 0, 3},
		{"fn main() { a: k = input key branch k b c b: n = input net jump c c: return k }", api.SInput, 45, 2},
		{"fn main() { a: k = input key branch k b c b: output vault k jump c c: return k }", 0, 0, 2},
		{"fn main() { a: k = input key o = const 1 x = div o k output vault x return x }", api.STrap, 41, 3},
		{"array t 2 low fn main() { a: k = input key i = wrap t k v = load t i output vault v return k }", 0, 0, 2},
		{"array t 2 low fn main() { a: k = input key v = load t k output vault v return k }", api.STrap, 43, 3},
		{"fn f() { a: x = call f() return x } fn main() { a: x = call f() return x }", 0, 0, 3},
	} {
		l, e := summary.Sinks(p, code(t, p, c.text))
		if e != api.OK || len(l) != c.many {
			t.Errorf("P20.2: of %q: %v, %d", c.text, l, e)
		}
		for _, s := range l {
			if above := s.Label.Level > s.Bound; above != (c.kind == s.Kind && c.at == s.At) {
				t.Errorf("P20.2: of %q: %v", c.text, s)
			}
		}
	}
}

func TestFaults(t *testing.T) {
	p := setting(t, two)
	for _, s := range []string{
		"fn main() { a: x = const 0 return x b: return x }",
		"fn main() { a: x = const 0 branch x b c b: jump b c: return x }",
		"fn main() { a: x = const 0 branch x a b b: return x }",
		"fn main() { a: x = const 0 jump b b: z = phi [b: x] return z }",
		"fn main() { a: y = add x x x = const 1 return y }",
		"fn main() { a: x = const 0 return x } fn f() { a: jump a }",
	} {
		refused(t, p, code(t, p, s))
	}
	text := "array t 4 low fn main() { a: x = const 3 y = call f(x) z = load t x output net x w = input key v = release w low return y } fn f(n) { a: return n }"
	for _, change := range []func(c *api.Code){
		func(c *api.Code) { *c = api.Code{} },
		func(c *api.Code) { c.Arrays = nil },
		func(c *api.Code) { c.Arrays[0].Level = 2 },
		func(c *api.Code) { c.Funcs = nil },
		func(c *api.Code) { c.Main = 1 },
		func(c *api.Code) { c.Main = -1 },
		func(c *api.Code) { c.Funcs[0].Vars = math.MaxInt },
		func(c *api.Code) { c.Funcs[1].Params = 7 },
		func(c *api.Code) { c.Funcs[0].Blocks[0][0].Dst = 9 },
		func(c *api.Code) { c.Funcs[0].Blocks[0][1].Ref = 2 },
		func(c *api.Code) { c.Funcs[0].Blocks[0][1].Ref = -1 },
		func(c *api.Code) { c.Funcs[0].Blocks[0][1].Args = nil },
		func(c *api.Code) { c.Funcs[0].Blocks[0][1].Args[0] = 9 },
		func(c *api.Code) { c.Funcs[0].Blocks[0][1].Kind = 14 },
		func(c *api.Code) { c.Funcs[0].Blocks[0][2].Ref = 1 },
		func(c *api.Code) { c.Funcs[0].Blocks[0][3].Ref = 2 },
		func(c *api.Code) { c.Funcs[0].Blocks[0][4].Ref = -1 },
		func(c *api.Code) { c.Funcs[0].Blocks[0][5].Ref = math.MaxInt },
		func(c *api.Code) { c.Funcs[0].Blocks[0] = nil },
		func(c *api.Code) { c.Funcs[0].Blocks = nil },
	} {
		c := code(t, p, text)
		check(t, p, c)
		change(&c)
		refused(t, p, c)
	}
	right := code(t, p, text)
	refused(t, api.Policy{}, right)
	refused(t, api.Policy{}, api.Code{})
	for _, depth := range []int{-1, 0, 65, math.MaxInt, math.MinInt} {
		wrong := p
		wrong.Depth = depth
		refused(t, wrong, right)
	}
	wrong := p
	wrong.Up = []uint64{3, 3}
	refused(t, wrong, right)
}

// TestAts: whatever the Ats are, they are told as they are.
func TestAts(t *testing.T) {
	p := setting(t, two)
	c := code(t, p, "fn main() { a: x = input key y = input net return x }")
	c.Funcs[0].Blocks[0][0].At, c.Funcs[0].Blocks[0][1].At = math.MinInt, math.MaxInt
	l, e := summary.Sinks(p, c)
	if e != api.OK || len(l) != 2 || l[0].At != math.MinInt || l[1].At != math.MaxInt {
		t.Errorf("P20.2: %v, %d", l, e)
	}
	check(t, p, c)
}

// TestOneLevel: there may be but one level, and no channels.
func TestOneLevel(t *testing.T) {
	p := setting(t, "level all\ndepth 1")
	check(t, p, code(t, p, "array t 4 all fn main() { a: x = const 7 y = call f(x) z = div x y store t y z return y } fn f(n) { a: x = release n all return x }"))
}
