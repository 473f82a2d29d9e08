package sinks_test

import (
	"math"
	"slices"
	"strings"
	"testing"

	"interdict/api"
	"interdict/sinks"
)

// typing is one as a test writes it: of each function, with a ; between each two, the levels of its values, its blocks, its result and its place, with a | between each two.
func typing(t *testing.T, p api.Policy, s string) []sinks.Typing {
	t.Helper()
	var l []sinks.Typing
	for _, f := range strings.Split(s, ";") {
		parts := strings.Split(f, "|")
		if len(parts) != 4 {
			t.Fatalf("the test's own typing %q is none", s)
		}
		l = append(l, sinks.Typing{Values: row(t, p, parts[0]), Blocks: row(t, p, parts[1]), Result: row(t, p, parts[2])[0], Place: row(t, p, parts[3])[0]})
	}
	return l
}

func TestHolds(t *testing.T) {
	p := setting(t, four)
	for _, c := range []struct {
		text   string
		holds  []string
		breaks []string
	}{
		// Blocks: at least the place, and what forks branch on in whose regions they are.
		{"fn main() { a: x = input ib y = const 1 branch x b c b: jump c c: return y }",
			[]string{"bot bot | bot bot bot | bot | bot", "left bot | bot left bot | bot | bot", "left bot | bot top bot | bot | bot", "bot left | bot bot right | top | bot", "top top | bot top top | top | bot"},
			[]string{"bot bot | bot bot bot | bot | left", "left bot | bot bot bot | bot | bot", "left bot | bot right bot | bot | bot", "top top | bot left top | top | bot"}},
		// What is beside a fork's region, behind it, and a branch with but one way.
		{"fn main() { a: x = input it branch x b b b: y = const 1 return y }", []string{"top bot | bot bot | bot | bot"}, []string{"top bot | bot right | bot | bot"}},
		{"fn main() { a: x = input it branch x b c b: return x c: y = const 1 return y }",
			[]string{"top top | bot top top | top | bot"}, []string{"top top | bot bot top | top | bot", "top top | bot top bot | top | bot", "top bot | bot top top | top | bot", "top top | bot top top | left | bot"}},
		// A loop's head is in its own region; a loop within it is in both, and its way back leads to where its ways come together.
		{"fn main() { a: x = input il y = input ir jump b b: branch x c d c: branch y c b d: z = const 1 return z }",
			[]string{"left right bot | bot left top bot | bot | bot", "left right bot | bot top top bot | bot | bot"},
			[]string{"left right bot | bot bot top bot | bot | bot", "left right bot | bot right top bot | bot | bot", "left right bot | bot left left bot | bot | bot", "left right bot | bot left right bot | bot | bot"}},
		// Of a value at least its block's; of a binary one, a wrap and a load both.
		{"fn main() { a: x = input il y = input ir z = add x y return z }",
			[]string{"left right top | bot | top | bot"}, []string{"left right left | bot | top | bot", "left right right | bot | top | bot", "left right bot | bot | bot | bot", "bot right top | bot | top | bot", "right right top | bot | top | bot"}},
		{"array t 2 left fn main() { a: x = input ir i = wrap t x y = load t i return y }",
			[]string{"right right top | bot | top | bot", "right top top | bot | top | bot"},
			[]string{"right bot top | bot | top | bot", "right left top | bot | top | bot", "right right right | bot | top | bot", "right right left | bot | top | bot", "right right top | bot | left | bot"}},
		// A phi: what it takes, from where, and what is branched on there.
		{"fn main() { a: x = input il y = input ir o = const 1 branch x b c b: jump d c: jump d d: z = phi [c: y, b: o] return z }",
			[]string{"left right bot top | bot left left bot | top | bot"},
			[]string{"left right bot left | bot left left bot | top | bot", "left right bot right | bot left left bot | top | bot", "left left bot left | bot left left bot | left | bot", "top right bot top | bot left top bot | top | bot"}},
		{"fn main() { a: x = input il y = input ir o = const 1 branch x b c b: jump c c: z = phi [a: y, b: o] return z }",
			[]string{"left right bot top | bot left bot | top | bot"}, []string{"left right bot right | bot left bot | top | bot", "left right bot left | bot left bot | top | bot", "left right bot right | bot bot bot | right | bot"}},
		{"fn main() { a: x = input il y = input ir o = const 1 branch x b c b: branch y d c d: jump c c: z = phi [a: o, b: o, d: o] return z }",
			[]string{"left right bot top | bot left top bot | top | bot"}, []string{"left right bot left | bot left top bot | top | bot", "left right bot top | bot left right bot | top | bot", "left right bot bot | bot left top bot | top | bot"}},
		// Where a fork leads to a block both by itself and from there: what it branches on counts.
		{"fn main() { a: x = input it branch x b b b: z = phi [a: x] return z }", []string{"top top | bot bot | top | bot"}, []string{"top left | bot bot | top | bot"}},
		// An input: its level, and who may ask for it.
		{"fn main() { a: x = input il return x }", []string{"left | bot | left | bot", "left | left | left | left", "top | left | top | left"},
			[]string{"bot | bot | left | bot", "right | bot | right | bot", "left | right | top | bot", "top | top | top | bot", "top | bot | left | bot", "left | left | bot | bot"}},
		// A release: whatever was there may be.
		{"fn main() { a: x = input it y = release x left return y }", []string{"top left | bot | left | bot", "top left | left | left | left", "top top | bot | top | bot"},
			[]string{"top bot | bot | left | bot", "top right | bot | top | bot", "top top | right | top | bot", "top top | top | top | bot", "top left | bot | right | bot"}},
		// An output, a store: all that comes in to it.
		{"fn main() { a: x = const 1 output ol x y = const 2 return y }", []string{"bot bot | bot | bot | bot", "left bot | bot | bot | bot", "left left | left | left | bot"},
			[]string{"right bot | bot | bot | bot", "top bot | bot | bot | bot", "bot bot | left | left | bot", "left right | right | right | bot", "top right | right | right | bot"}},
		{"array t 2 left fn main() { a: i = const 1 x = const 2 store t i x y = const 2 return y }", []string{"bot bot bot | bot | bot | bot", "left left bot | bot | bot | bot", "left left top | left | top | bot"},
			[]string{"right bot bot | bot | bot | bot", "bot top bot | bot | bot | bot", "top left bot | bot | bot | bot", "right right right | right | right | bot"}},
		// What may trap: at the bottom, though the array is above it.
		{"fn main() { a: x = const 0 y = div x x return y }", []string{"bot bot | bot | bot | bot", "bot left | bot | left | bot"}, []string{"left left | bot | left | bot", "left left | left | left | bot"}},
		{"fn main() { a: x = const 5 y = const 2 z = mod x y return z }", []string{"left left left | left | left | left", "bot right right | bot | right | bot"}, nil},
		{"array t 2 left fn main() { a: x = const 2 y = const 1 store t x y z = load t x return z }", []string{"bot bot left | bot | left | bot", "bot left left | bot | left | bot"},
			[]string{"left bot left | bot | left | bot", "bot bot bot | bot | left | bot", "left left left | left | left | bot"}},
		{"fn main() { a: x = const 0 y = const 7 branch y b c b: z = div x x jump c c: return x }", []string{"bot bot bot | bot bot bot | bot | bot"}, []string{"bot left left | bot left bot | bot | bot", "bot left bot | bot bot bot | bot | bot"}},
		// A call: what is given, what comes back, from where.
		{"fn main() { a: x = input il y = input ir z = call f(x, y) return z } fn f(n, m) { a: return n }",
			[]string{"left right left | bot | left | bot ; left right | bot | left | bot", "left right top | bot | top | bot ; top top | bot | top | bot", "left right left | bot | left | bot ; left right | left | left | left", "left right left | bot | left | bot ; left right | left | left | bot"},
			[]string{"left right left | bot | left | bot ; bot right | bot | left | bot", "left right left | bot | left | bot ; left bot | bot | left | bot", "left right top | bot | top | bot ; right left | bot | top | bot",
				"left right left | bot | left | bot ; left right | bot | bot | bot", "left right bot | bot | left | bot ; left right | bot | left | bot", "left right right | bot | top | bot ; left right | bot | left | bot", "left right left | bot | left | bot ; left right | bot | left | left"}},
		{"fn main() { a: x = input il branch x b c b: y = call f() jump c c: return x } fn f() { a: x = const 1 return x }",
			[]string{"left left | bot left bot | left | bot ; left | left | left | left", "left top | bot left bot | left | bot ; top | left | top | left"}, []string{"left left | bot left bot | left | bot ; left | left | left | bot", "left top | bot left bot | left | bot ; top | top | top | right"}},
		// A parameter may be below the place.
		{"fn f(n) { a: x = const 1 return x } fn main() { a: x = const 1 return x }", []string{"bot left | left | left | left ; bot | bot | bot | bot", "top bot | bot | bot | bot ; top | top | top | top"}, []string{"left bot | left | left | left ; bot | bot | bot | bot"}},
		// A call that may be one too many, of the third function within one another; none in the second one.
		{"fn main() { a: x = call f() return x } fn f() { a: x = call g() return x } fn g() { a: x = call h() return x } fn h() { a: x = const 1 return x }",
			[]string{"bot | bot | bot | bot ; bot | bot | bot | bot ; bot | bot | bot | bot ; bot | bot | bot | bot", "left | bot | left | bot ; left | bot | left | bot ; left | bot | left | bot ; left | left | left | left"},
			[]string{"left | left | left | left ; left | left | left | left ; left | left | left | left ; left | left | left | left", "left | bot | left | bot ; left | bot | left | bot ; left | left | left | bot ; left | left | left | left"}},
		{"fn main() { a: x = call f() return x } fn f() { a: x = call g() return x } fn g() { a: x = const 1 return x }",
			[]string{"left | left | left | left ; left | left | left | left ; left | left | left | left", "left | bot | left | bot ; left | left | left | bot ; left | left | left | left"},
			[]string{"left | left | left | left ; left | left | left | left ; left | left | left | bot", "left | left | left | left ; left | left | left | bot ; left | left | left | left"}},
		// A function that does not count must be right as well.
		{"fn main() { a: x = const 1 return x } fn f() { a: x = input it output ob x return x }", nil, []string{"bot | bot | bot | bot ; top | bot | top | bot", "bot | bot | bot | bot ; bot | bot | bot | bot"}},
	} {
		d := code(t, p, c.text)
		for want, all := range [][]string{c.breaks, c.holds} {
			for _, s := range all {
				given := typing(t, p, s)
				if is, e := sinks.Holds(p, d, given); e != api.OK || is != (want == 1) {
					t.Errorf("P21.2: Holds of %q, %q is %v, %d", c.text, s, is, e)
				}
				if want == 1 && !sinks.Accepts(p, d) {
					t.Errorf("P21.3: %q holds for %q, which is not accepted", s, c.text)
				}
			}
		}
	}
}

// TestHoldsWrong: typings that are none.
func TestHoldsWrong(t *testing.T) {
	p := setting(t, two)
	c := code(t, p, "fn f(n, m) { a: branch n b c b: jump c c: return n } fn main() { a: x = input key y = const 1 return y }")
	const base = "low low | low low low | low | low ; high low | low | low | low"
	if is, e := sinks.Holds(p, c, typing(t, p, base)); !is || e != api.OK {
		t.Fatalf("P21.2: Holds of the test's own typing: %v, %d", is, e)
	}
	refuse := func(change func(l *[]sinks.Typing)) {
		t.Helper()
		l := typing(t, p, base)
		change(&l)
		if is, e := sinks.Holds(p, c, l); is || e != api.ErrArg {
			t.Errorf("P21.2: Holds of %v is %v, %d, want ErrArg", l, is, e)
		}
	}
	refuse(func(l *[]sinks.Typing) { *l = nil })
	refuse(func(l *[]sinks.Typing) { *l = (*l)[:1] })
	refuse(func(l *[]sinks.Typing) { *l = append(*l, sinks.Typing{}) })
	refuse(func(l *[]sinks.Typing) { slices.Reverse(*l) })
	for fn := range 2 {
		refuse(func(l *[]sinks.Typing) { (*l)[fn] = sinks.Typing{} })
		refuse(func(l *[]sinks.Typing) { (*l)[fn].Values = nil })
		refuse(func(l *[]sinks.Typing) { (*l)[fn].Values = (*l)[fn].Values[:1] })
		refuse(func(l *[]sinks.Typing) { (*l)[fn].Values = append((*l)[fn].Values, 0) })
		refuse(func(l *[]sinks.Typing) { (*l)[fn].Blocks = nil })
		refuse(func(l *[]sinks.Typing) { (*l)[fn].Blocks = append((*l)[fn].Blocks, 0) })
		for _, level := range []int{-1, 2, 63, 64, math.MaxInt, math.MinInt} {
			for i := range 2 {
				refuse(func(l *[]sinks.Typing) { (*l)[fn].Values[i] = level })
			}
			refuse(func(l *[]sinks.Typing) { (*l)[fn].Blocks[0] = level })
			refuse(func(l *[]sinks.Typing) { (*l)[fn].Result = level })
			refuse(func(l *[]sinks.Typing) { (*l)[fn].Place = level })
			// Though it would not hold, either.
			refuse(func(l *[]sinks.Typing) { (*l)[0].Values[0], (*l)[fn].Place = 1, level })
		}
	}
	refuse(func(l *[]sinks.Typing) { (*l)[0].Blocks[2] = 2 })
}
