package tree_test

import (
	"cmp"
	"maps"
	"math"
	"math/rand"
	"reflect"
	"slices"
	"strconv"
	"strings"
	"testing"

	"interdict/api"
	"interdict/token"
	"interdict/tree"
)

const (
	operators = "add sub mul div mod and or xor shl shr eq less"
	words     = "array fn const phi load wrap store call input output release jump branch return"
	signs     = "( ) { } [ ] , : ="
)

// plain is a program with nil for each list that is empty.
func plain(p api.Program) api.Program {
	list := func(l []string) []string { return append([]string(nil), l...) }
	q := api.Program{Arrays: append([]api.Array(nil), p.Arrays...), Funcs: append([]api.Func(nil), p.Funcs...)}
	for i, f := range q.Funcs {
		q.Funcs[i].Params = list(f.Params)
		q.Funcs[i].Blocks = append([]api.Block(nil), f.Blocks...)
		for j, b := range f.Blocks {
			code := append([]api.Instr(nil), b.Code...)
			for k, x := range code {
				code[k].Args, code[k].From = list(x.Args), list(x.From)
			}
			q.Funcs[i].Blocks[j].Code = code
		}
	}
	return q
}

// same: are two programs the same, a list that is not there being an empty one?
func same(p, q api.Program) bool { return reflect.DeepEqual(plain(p), plain(q)) }

// checkWrong holds that s is no program, by the error that counts.
func checkWrong(t *testing.T, s string, at int, e api.Errno) {
	t.Helper()
	p, place, got := tree.Parse(s)
	if got != e || place != at || !same(p, api.Program{}) {
		behind := s[min(max(at-40, 0), len(s)):]
		t.Errorf("P7.1: Parse(.. %.60q) of %d bytes = %v, %d at %d, want %d at %d", behind, len(s), p, got, place, e, at)
	}
}

// checkRight holds that s is a program, whichever.
func checkRight(t *testing.T, s string) api.Program {
	t.Helper()
	p, at, e := tree.Parse(s)
	if e != api.OK || at != 0 {
		t.Errorf("P7.1: Parse(%.60q ..) of %d bytes: %d at %d", s, len(s), e, at)
	}
	return p
}

func TestParse(t *testing.T) {
	main := func(code ...api.Instr) api.Program {
		return api.Program{Funcs: []api.Func{{Name: "main", Blocks: []api.Block{{Name: "a", Code: code, At: 12}}}}}
	}
	for s, want := range map[string]api.Program{
		"":             {},
		" \t\n":        {},
		"# fn f() {":   {},
		"#\n  # x\n\n": {},
		"fn main() { a: x = const 7 output net x return x }": main(
			api.Instr{Kind: api.KConst, Dst: "x", Num: 7, At: 15},
			api.Instr{Kind: api.KOutput, Ref: "net", Args: []string{"x"}, At: 27},
			api.Instr{Kind: api.KReturn, Args: []string{"x"}, At: 40},
		),
		"fn main() { a: }":          main(),
		"fn main() { a:}# no more ": main(),
		"array t 4 low":             {Arrays: []api.Array{{Name: "t", Size: 4, Level: "low"}}},
		"array t 1 low array t 256 t": {Arrays: []api.Array{
			{Name: "t", Size: 1, Level: "low"}, {Name: "t", Size: 256, Level: "t", At: 14},
		}},
		"fn f(a){a:}array t 2 h\nfn f(a,b)\n{α:β:\nreturn a c:jump f}array u 3 h": {
			Arrays: []api.Array{{Name: "t", Size: 2, Level: "h", At: 11}, {Name: "u", Size: 3, Level: "h", At: 59}},
			Funcs: []api.Func{
				{Name: "f", Params: []string{"a"}, Blocks: []api.Block{{Name: "a", At: 8}}},
				{Name: "f", Params: []string{"a", "b"}, At: 23, Blocks: []api.Block{
					{Name: "α", At: 34},
					{Name: "β", At: 37, Code: []api.Instr{{Kind: api.KReturn, Args: []string{"a"}, At: 41}}},
					{Name: "c", At: 50, Code: []api.Instr{{Kind: api.KJump, Ref: "f", At: 52}}},
				}},
			},
		},
		"fn a(a, a, b, b, a, a) { a: a = call a(a, a) a: }": {Funcs: []api.Func{{
			Name: "a", Params: []string{"a", "a", "b", "b", "a", "a"}, Blocks: []api.Block{
				{Name: "a", At: 25, Code: []api.Instr{{Kind: api.KCall, Dst: "a", Ref: "a", Args: []string{"a", "a"}, At: 28}}},
				{Name: "a", At: 45},
			},
		}}},
	} {
		if p := checkRight(t, s); !same(p, want) {
			t.Errorf("P7.1: Parse(%q) = %v, want %v", s, p, want)
		}
	}
}

// Each instruction, by its text.
func instrs() map[string]api.Instr {
	all := map[string]api.Instr{
		"x = const 7":                    {Kind: api.KConst, Dst: "x", Num: 7},
		"x = const 0":                    {Kind: api.KConst, Dst: "x"},
		"x = const -1":                   {Kind: api.KConst, Dst: "x", Num: -1},
		"x = const 9223372036854775807":  {Kind: api.KConst, Dst: "x", Num: math.MaxInt64},
		"x = const -9223372036854775808": {Kind: api.KConst, Dst: "x", Num: math.MinInt64},
		"x = phi [a: y]":                 {Kind: api.KPhi, Dst: "x", From: []string{"a"}, Args: []string{"y"}},
		"x = phi [a: y, b: z, a: x]":     {Kind: api.KPhi, Dst: "x", From: []string{"a", "b", "a"}, Args: []string{"y", "z", "x"}},
		"x = load t i":                   {Kind: api.KLoad, Dst: "x", Ref: "t", Args: []string{"i"}},
		"x = wrap t i":                   {Kind: api.KWrap, Dst: "x", Ref: "t", Args: []string{"i"}},
		"store t i v":                    {Kind: api.KStore, Ref: "t", Args: []string{"i", "v"}},
		"x = call f()":                   {Kind: api.KCall, Dst: "x", Ref: "f"},
		"x = call f(y)":                  {Kind: api.KCall, Dst: "x", Ref: "f", Args: []string{"y"}},
		"x = call f(a, b, c, d, e, g)":   {Kind: api.KCall, Dst: "x", Ref: "f", Args: []string{"a", "b", "c", "d", "e", "g"}},
		"x = input key":                  {Kind: api.KInput, Dst: "x", Ref: "key"},
		"output net v":                   {Kind: api.KOutput, Ref: "net", Args: []string{"v"}},
		"x = release v low":              {Kind: api.KRelease, Dst: "x", Ref: "low", Args: []string{"v"}},
		"jump b":                         {Kind: api.KJump, Ref: "b"},
		"branch v b c":                   {Kind: api.KBranch, Ref: "b", Alt: "c", Args: []string{"v"}},
		"return v":                       {Kind: api.KReturn, Args: []string{"v"}},
		"Ω_1 = less ς αβ":                {Kind: api.KBin, Op: api.OpLess, Dst: "Ω_1", Args: []string{"ς", "αβ"}},
	}
	for i, name := range strings.Fields(operators) {
		all["x = "+name+" a b"] = api.Instr{Kind: api.KBin, Op: uint8(i + 1), Dst: "x", Args: []string{"a", "b"}}
	}
	return all
}

func TestEachInstruction(t *testing.T) {
	for s, x := range instrs() {
		for _, ahead := range []string{"fn f() { a:", "fn f() { a: ", "array t 1 l fn f(x) { a: jump b # é\n b:\t\n "} {
			for _, behind := range []string{"}", "\n}", " jump b }", " x = const 1 }", " b: }"} {
				p := checkRight(t, ahead+s+behind)
				if len(p.Funcs) != 1 {
					continue
				}
				b := p.Funcs[0].Blocks[strings.Count(ahead, "b:")]
				want := x
				want.At = len(ahead)
				if len(b.Code) == 0 || !reflect.DeepEqual(one(b.Code[0]), one(want)) {
					t.Errorf("P7.1: %q is %v, want %v", s, b.Code, want)
				}
			}
		}
	}
}

// one is a program of an instruction, and nil for each list of it that is empty.
func one(x api.Instr) api.Program {
	return plain(api.Program{Funcs: []api.Func{{Blocks: []api.Block{{Code: []api.Instr{x}}}}}})
}

func TestParseOfWrongTexts(t *testing.T) {
	for _, c := range []struct {
		s  string
		at int
		e  api.Errno
	}{
		{"fn main() { }", 12, api.ErrSyntax},
		{"array t 0 low", 8, api.ErrNumber},
		{"fn f(a b)", 7, api.ErrSyntax},
		{"fn main() { a: x add", 17, api.ErrSyntax},
		{"x", 0, api.ErrSyntax},
		{"}", 0, api.ErrSyntax},
		{"7", 0, api.ErrSyntax},
		{"jump a", 0, api.ErrSyntax},
		{"fn", 2, api.ErrSyntax},
		{"fn \n# x", 7, api.ErrSyntax},
		{"fn add() { a: }", 3, api.ErrSyntax},
		{"fn fn() { a: }", 3, api.ErrSyntax},
		{"fn 7() { a: }", 3, api.ErrSyntax},
		{"fn f { a: }", 5, api.ErrSyntax},
		{"fn f(,) { a: }", 5, api.ErrSyntax},
		{"fn f(a,) { a: }", 7, api.ErrSyntax},
		{"fn f(a,,b) { a: }", 7, api.ErrSyntax},
		{"fn f(a, add) { a: }", 8, api.ErrSyntax},
		{"fn f(a: b) { a: }", 6, api.ErrSyntax},
		{"fn f() a: }", 7, api.ErrSyntax},
		{"fn f() { a: } }", 14, api.ErrSyntax},
		{"fn f() { a: ", 12, api.ErrSyntax},
		{"fn f() { a: x", 13, api.ErrSyntax},
		{"fn f() { a: x # y", 17, api.ErrSyntax},
		{"fn f() { a x = const 1 }", 11, api.ErrSyntax},
		{"fn f() { x = const 1 a: }", 11, api.ErrSyntax},
		{"fn f() { jump a }", 9, api.ErrSyntax},
		{"fn f() { a: b }", 14, api.ErrSyntax},
		{"fn f() { a: b, }", 13, api.ErrSyntax},
		{"fn f() { a: : }", 12, api.ErrSyntax},
		{"fn f() { a: = }", 12, api.ErrSyntax},
		{"fn f() { a: store: }", 17, api.ErrSyntax},
		{"fn f() { a: jump: }", 16, api.ErrSyntax},
		{"fn f() { a: jump = const 7 }", 17, api.ErrSyntax},
		{"fn f() { a: load t i }", 12, api.ErrSyntax},
		{"fn f() { a: input k }", 12, api.ErrSyntax},
		{"fn f() { a: call f() }", 12, api.ErrSyntax},
		{"fn f() { a: add x y }", 12, api.ErrSyntax},
		{"fn f() { a: const 7 }", 12, api.ErrSyntax},
		{"fn f() { a: fn g() { a: } }", 12, api.ErrSyntax},
		{"fn f() { a: array t 1 l }", 12, api.ErrSyntax},
		{"fn f() { a: 7: }", 12, api.ErrSyntax},
		{"fn f() { a: x = }", 16, api.ErrSyntax},
		{"fn f() { a: x = y }", 16, api.ErrSyntax},
		{"fn f() { a: x = 7 }", 16, api.ErrSyntax},
		{"fn f() { a: x = output n x }", 16, api.ErrSyntax},
		{"fn f() { a: x = store t i v }", 16, api.ErrSyntax},
		{"fn f() { a: x = jump a }", 16, api.ErrSyntax},
		{"fn f() { a: x = const y }", 22, api.ErrSyntax},
		{"fn f() { a: x = add y 7 }", 22, api.ErrSyntax},
		{"fn f() { a: x = add y }", 22, api.ErrSyntax},
		{"fn f() { a: x = add y z w }", 26, api.ErrSyntax},
		{"fn f() { a: x = load t }", 23, api.ErrSyntax},
		{"fn f() { a: x = phi }", 20, api.ErrSyntax},
		{"fn f() { a: x = phi [] }", 21, api.ErrSyntax},
		{"fn f() { a: x = phi [a] }", 22, api.ErrSyntax},
		{"fn f() { a: x = phi [a:] }", 23, api.ErrSyntax},
		{"fn f() { a: x = phi [a: b,] }", 26, api.ErrSyntax},
		{"fn f() { a: x = phi [a: b c: d] }", 26, api.ErrSyntax},
		{"fn f() { a: x = phi (a: b) }", 20, api.ErrSyntax},
		{"fn f() { a: x = call f }", 23, api.ErrSyntax},
		{"fn f() { a: x = call f(7) }", 23, api.ErrSyntax},
		{"fn f() { a: x = call f(y z) }", 25, api.ErrSyntax},
		{"fn f() { a: branch x a }", 23, api.ErrSyntax},
		{"fn f() { a: return }", 19, api.ErrSyntax},
		{"fn f() { a: jump b jump 7 }", 24, api.ErrSyntax},
		{"array", 5, api.ErrSyntax},
		{"array t", 7, api.ErrSyntax},
		{"array t 4", 9, api.ErrSyntax},
		{"array t 4 7", 10, api.ErrSyntax},
		{"array t low 4", 8, api.ErrSyntax},
		{"array t x low", 8, api.ErrSyntax},
		{"array 4 t low", 6, api.ErrSyntax},
		{"array t 4 low,", 13, api.ErrSyntax},
		{"array t 4 low high", 14, api.ErrSyntax},
		{"array t 4 level 4", 16, api.ErrSyntax},
		{"array t -1 low", 8, api.ErrNumber},
		{"array t 257 low", 8, api.ErrNumber},
		{"array t 0", 8, api.ErrNumber},
		{"array t 257 7", 8, api.ErrNumber},
		{"array t 4294967297 low", 8, api.ErrNumber},
		{"array t 9223372036854775807 low", 8, api.ErrNumber},
		{"array t -9223372036854775808 low", 8, api.ErrNumber},
		{"array t 4 l array u 0 l }", 20, api.ErrNumber},
		{"array t 4 l } array u 0 l", 12, api.ErrSyntax},
		// What layer 3 refuses counts first, wherever it stands.
		{"} ;", 2, api.ErrToken},
		{"array t 0 low 07", 14, api.ErrToken},
		{"fn main() { a: x = const 9223372036854775808 return x }", 25, api.ErrToken},
		{"fn main() { a: return " + strings.Repeat("x", 25) + " }", 22, api.ErrToken},
		{"} ; \xff", 4, api.ErrText},
		{"fn main() { a: } # \xe2\x82", 19, api.ErrText},
		{strings.Repeat("}", 65537), 0, api.ErrLong},
		{strings.Repeat(" ", 65536) + "\xff", 0, api.ErrLong},
		{strings.Repeat("}", 65536), 0, api.ErrSyntax},
		{strings.Repeat(" ", 65535) + "}", 65535, api.ErrSyntax},
		{"fn f() { a: x" + strings.Repeat(" ", 65523), 65536, api.ErrSyntax},
	} {
		checkWrong(t, c.s, c.at, c.e)
	}
	checkRight(t, strings.Repeat(" ", 65536))
	checkRight(t, "fn f() { a: }"+strings.Repeat("\n", 65523))
}

// many is n times s, # of it being the time's number.
func many(n int, s string) string {
	var b strings.Builder
	for i := range n {
		b.WriteString(strings.ReplaceAll(s, "#", strconv.Itoa(i)))
	}
	return b.String()
}

// comma is n times s, with commas between.
func comma(n int, s string) string { return strings.TrimSuffix(many(n, s+", "), ", ") }

func TestAsManyAsMayBe(t *testing.T) {
	p := checkRight(t, many(16, "array t# 256 l fn f#() { a: } ")+many(48, "fn g#() { a: } "))
	if len(p.Arrays) != 16 || len(p.Funcs) != 64 || p.Arrays[15].Name != "t15" || p.Funcs[63].Name != "g47" {
		t.Errorf("P7.1: %d arrays, %d functions", len(p.Arrays), len(p.Funcs))
	}
	p = checkRight(t, "fn f("+comma(6, "p#")+") { "+many(64, "b#: ")+"} fn g() { "+many(64, "c#: ")+"}")
	if len(p.Funcs) != 2 || len(p.Funcs[0].Params) != 6 || len(p.Funcs[0].Blocks) != 64 || len(p.Funcs[1].Blocks) != 64 {
		t.Errorf("P7.1: %v", p)
	}
	p = checkRight(t, "fn f() { a: x = phi ["+comma(64, "b#: v#")+"] y = phi ["+comma(64, "c#: w#")+"] z = call f("+comma(6, "v#")+")}")
	if code := p.Funcs[0].Blocks[0].Code; len(code) != 3 || len(code[0].From) != 64 || len(code[0].Args) != 64 || code[1].From[63] != "c63" || len(code[2].Args) != 6 {
		t.Errorf("P7.1: %v", code)
	}
	p = checkRight(t, many(64, "fn f#() { a: "+many(63, "x=input k ")+"return x b: }"))
	if p.Funcs[63].Blocks[0].Code[63].Kind != api.KReturn {
		t.Errorf("P7.1: %v", p.Funcs[63])
	}
	p = checkRight(t, "fn f() { "+many(4096, "x: jump x ")[:10*64]+many(4032, "jump x ")+"}")
	if b := p.Funcs[0].Blocks; len(b) != 64 || len(b[0].Code) != 1 || len(b[63].Code) != 4033 {
		t.Errorf("P7.1: %d blocks", len(b))
	}
}

func TestOneTooMany(t *testing.T) {
	arrays, funcs := many(16, "array t# 1 l "), many(64, "fn f#(){a:}")
	params, args := "fn f("+many(6, "p#,"), "fn f() { a: x = call f("+many(6, "p#,")
	pairs, blocks := "fn f() { a: x = phi [ "+many(64, "a:b, "), "fn f() { "+many(64, "b#: ")
	code := "fn f() { a: " + many(4095, "jump a ") + "} fn g() { a: return x "
	both := "fn f() { " + many(64, "b#: ") + many(4096, "jump a ")
	for ahead, behinds := range map[string][]string{
		arrays:         {"array t 1 l", "array t 0 l", "array", "array array", "array )"},
		arrays + funcs: {"array t 1 l", "fn f() { a: }", "array ", "fn "},
		funcs:          {"fn f() { a: }", "fn", "fn )", "fn fn"},
		params:         {"p) { a: }", "p", "p,", "p p", "p7"},
		args:           {"p) }", "p", "p,", "p p", "p7"},
		pairs:          {"a: b] }", "a", "a b", "a, b", "a:", "a]"},
		blocks:         {"b: }", "b:", "b: )", "b: b: }"},
		code:           {"x = const 1 }", "x =", "x = )", "store t i v }", "store", "store )", "output", "output:", "jump a }", "jump", "branch b a a", "return x", "return }"},
		both:           {"x = const 1 }", "x: }", "x:", "x =", "x y", "x", "x )", "jump"},
	} {
		for _, behind := range behinds {
			checkWrong(t, ahead+behind, len(ahead), api.ErrFull)
		}
	}
	for _, c := range []struct {
		ahead, behind string
		at            int
	}{
		{arrays, "t 1 l", 0},
		{funcs, "f", 0},
		{params, ") { a: }", 0},
		{params, "", 0},
		{params, "7", 0},
		{params, ", p", 0},
		{params, "add", 0},
		{args, ") }", 0},
		{args, "", 0},
		{args, "const", 0},
		{pairs, "]", 0},
		{pairs, "", 0},
		{pairs, ": b", 0},
		{pairs, "7: b", 0},
		{blocks, "b c", 2},
		{blocks, "b", 1},
		{blocks, "b )", 2},
		{blocks, "add:", 0},
		{blocks, ":", 0},
		{code, "x y", 2},
		{code, "x", 1},
		{code, "x }", 2},
		{code, "load t i", 0},
		{code, "add x y", 0},
		{code, "7", 0},
		{code, "=", 0},
		{code, "fn", 0},
		{code, "", 0},
		{both, ": x", 0},
		{both, "fn", 0},
		{both, "phi", 0},
		{both, "", 0},
	} {
		checkWrong(t, c.ahead+c.behind, len(c.ahead)+c.at, api.ErrSyntax)
	}
	for _, s := range []string{
		arrays + "fn f() { a: }", funcs + "array t 1 l", funcs + arrays,
		strings.TrimSuffix(params, ",") + ") { a: }", strings.TrimSuffix(args, ",") + ") }",
		strings.TrimSuffix(pairs, ", ") + "] }", blocks + "b = const 1 jump b }", blocks + "} fn g() { a: }",
		code + "}", code + "b: }", code + "b: c: } fn h() { a: }", both + "}", both + "} fn g() { a: b: }",
	} {
		checkRight(t, s)
	}
}

// rx is an expression whose letters are kinds of tokens: what no text fits is nil, what the empty one alone fits is done.
type rx struct {
	letter string
	parts  []*rx // one behind the other, or one of them
	either bool
	star   *rx
}

var done = &rx{}

// seq is its parts, one behind the other; a text stands for letters.
func seq(parts ...any) *rx {
	r := &rx{}
	for _, p := range parts {
		switch x := p.(type) {
		case string:
			for _, letter := range strings.Fields(x) {
				r.parts = append(r.parts, &rx{letter: letter})
			}
		case *rx:
			if x == nil {
				return nil
			}
			if x.letter == "" && !x.either && x.star == nil {
				r.parts = append(r.parts, x.parts...)
			} else {
				r.parts = append(r.parts, x)
			}
		}
	}
	if len(r.parts) == 1 {
		return r.parts[0]
	}
	return r
}

// either is one of its parts.
func either(parts ...*rx) *rx {
	r := &rx{either: true}
	for _, p := range parts {
		if p != nil && !slices.ContainsFunc(r.parts, func(q *rx) bool { return reflect.DeepEqual(p, q) }) {
			r.parts = append(r.parts, p)
		}
	}
	switch len(r.parts) {
	case 0:
		return nil
	case 1:
		return r.parts[0]
	}
	return r
}

func star(r *rx) *rx  { return &rx{star: r} }
func maybe(r *rx) *rx { return either(done, r) }

// empty: does the empty text fit?
func (r *rx) empty() bool {
	if r.letter != "" {
		return false
	}
	fits := func(p *rx) bool { return p.empty() }
	if r.either {
		return slices.ContainsFunc(r.parts, fits)
	}
	return r.star != nil || !slices.ContainsFunc(r.parts, func(p *rx) bool { return !fits(p) })
}

// behind is what may follow a letter: nil, if that can't stand first.
func (r *rx) behind(letter string) *rx {
	switch {
	case r.letter != "":
		if r.letter == letter {
			return done
		}
		return nil
	case r.star != nil:
		if d := r.star.behind(letter); d != nil {
			return seq(d, r)
		}
		return nil
	case r.either:
		var l []*rx
		for _, p := range r.parts {
			l = append(l, p.behind(letter))
		}
		return either(l...)
	}
	var l []*rx
	for i, p := range r.parts {
		if d := p.behind(letter); d != nil {
			rest := []any{d}
			for _, q := range r.parts[i+1:] {
				rest = append(rest, q)
			}
			l = append(l, seq(rest...))
		}
		if !p.empty() {
			break
		}
	}
	return either(l...)
}

// grammar is the chapter's.
func grammar() *rx {
	names := seq("(", maybe(seq("NAME", star(seq(", NAME")))), ")")
	pair := seq("NAME : NAME")
	value := either(seq("const NUM"), seq("OPERATOR NAME NAME"), seq("phi [", pair, star(seq(",", pair)), "]"),
		seq("load NAME NAME"), seq("wrap NAME NAME"), seq("call NAME", names), seq("input NAME"), seq("release NAME NAME"))
	instr := either(seq("NAME =", value), seq("store NAME NAME NAME"), seq("output NAME NAME"),
		seq("jump NAME"), seq("branch NAME NAME NAME"), seq("return NAME"))
	block := seq("NAME :", star(instr))
	fn := seq("fn NAME", names, "{", block, star(block), "}")
	return star(either(seq("array NAME NUM NAME"), fn))
}

// letters is the grammar's letter of each token that is neither a name nor a number.
var letters = func() map[string]string {
	all := map[string]string{}
	for _, s := range strings.Fields(words + " " + signs) {
		all[s] = s
	}
	for _, s := range strings.Fields(operators) {
		all[s] = "OPERATOR"
	}
	return all
}()

// letter tells which of the grammar's letters a token is.
func letter(s string) string {
	if known := letters[s]; known != "" {
		return known
	}
	if _, e := strconv.ParseInt(s, 10, 64); e == nil {
		return "NUM"
	}
	return "NAME"
}

// oracle remembers what may follow what.
type oracle struct {
	start *rx
	known map[*rx]map[string]*rx
}

func (o *oracle) behind(r *rx, s string) *rx {
	to := o.known[r]
	if to == nil {
		to = map[string]*rx{}
		o.known[r] = to
	}
	d, ok := to[letter(s)]
	if !ok {
		d = r.behind(letter(s))
		// One expression of several that are the same is enough, so that there are but few.
		for known := range o.known {
			if d != nil && reflect.DeepEqual(d, known) {
				d = known
			}
		}
		to[letter(s)] = d
	}
	return d
}

// judge tells at which token, and with which error, a program gives up: of as many tokens as there are, at the end.
func (o *oracle) judge(tokens []string) (int, api.Errno) {
	r, inside, names := o.start, false, 0
	for i, s := range tokens {
		if r = o.behind(r, s); r == nil {
			return i, api.ErrSyntax
		}
		switch letter(s) {
		case "(":
			inside, names = true, 0
		case ")":
			inside = false
		case "NAME":
			if names++; inside && names > 6 {
				return i, api.ErrFull
			}
		}
		if i >= 2 && tokens[i-2] == "array" {
			if n, _ := strconv.ParseInt(s, 10, 64); n < 1 || n > 256 {
				return i, api.ErrNumber
			}
		}
	}
	if !r.empty() {
		return len(tokens), api.ErrSyntax
	}
	return 0, api.OK
}

// lay writes tokens, with blanks and remarks between, and tells where each of them stands, and the end.
func lay(r *rand.Rand, tokens []string) (string, []int) {
	var b strings.Builder
	var places []int
	blanks := []string{" ", "\n", "\t", "  ", " # fn é; 07\n", "#\n", " \n\t"}
	joins := func(s string) bool { return !strings.Contains(signs, s) }
	for i, s := range tokens {
		// Of a number below 0 the - parts it from what stands ahead.
		must := i > 0 && joins(tokens[i-1]) && joins(s) && s[0] != '-'
		if must || r.Intn(3) == 0 {
			b.WriteString(blanks[r.Intn(len(blanks))])
		}
		places = append(places, b.Len())
		b.WriteString(s)
	}
	if r.Intn(2) == 0 {
		b.WriteString(blanks[r.Intn(len(blanks))])
	}
	return b.String(), append(places, b.Len())
}

// told is the tokens that a program tells, each array and function at its place among the others.
func told(p api.Program) []string {
	type item struct {
		at     int
		tokens []string
	}
	var l []item
	for _, a := range p.Arrays {
		l = append(l, item{a.At, []string{"array", a.Name, strconv.Itoa(a.Size), a.Level}})
	}
	for _, f := range p.Funcs {
		tokens := append([]string{"fn", f.Name}, inner(f.Params)...)
		tokens = append(tokens, "{")
		for _, b := range f.Blocks {
			tokens = append(tokens, b.Name, ":")
			for _, x := range b.Code {
				tokens = append(tokens, instr(x)...)
			}
		}
		l = append(l, item{f.At, append(tokens, "}")})
	}
	slices.SortFunc(l, func(a, b item) int { return cmp.Compare(a.at, b.at) })
	var all []string
	for _, i := range l {
		all = append(all, i.tokens...)
	}
	return all
}

// inner is the tokens of names with commas between, in their signs.
func inner(l []string) []string {
	tokens := []string{"("}
	for i, s := range l {
		if i > 0 {
			tokens = append(tokens, ",")
		}
		tokens = append(tokens, s)
	}
	return append(tokens, ")")
}

// instr is the tokens of an instruction.
func instr(x api.Instr) []string {
	args := func(i int) string { return x.Args[i] }
	switch x.Kind {
	case api.KConst:
		return []string{x.Dst, "=", "const", strconv.FormatInt(x.Num, 10)}
	case api.KBin:
		return []string{x.Dst, "=", strings.Fields(operators)[x.Op-1], args(0), args(1)}
	case api.KPhi:
		l := []string{x.Dst, "=", "phi", "["}
		for i := range x.Args {
			l = append(l, x.From[i], ":", x.Args[i], ",")
		}
		l[len(l)-1] = "]"
		return l
	case api.KLoad:
		return []string{x.Dst, "=", "load", x.Ref, args(0)}
	case api.KWrap:
		return []string{x.Dst, "=", "wrap", x.Ref, args(0)}
	case api.KStore:
		return []string{"store", x.Ref, args(0), args(1)}
	case api.KCall:
		return append([]string{x.Dst, "=", "call", x.Ref}, inner(x.Args)...)
	case api.KInput:
		return []string{x.Dst, "=", "input", x.Ref}
	case api.KOutput:
		return []string{"output", x.Ref, args(0)}
	case api.KRelease:
		return []string{x.Dst, "=", "release", args(0), x.Ref}
	case api.KJump:
		return []string{"jump", x.Ref}
	case api.KBranch:
		return []string{"branch", args(0), x.Ref, x.Alt}
	case api.KReturn:
		return []string{"return", args(0)}
	}
	return nil
}

// check holds what Parse says of some tokens against the grammar.
func (o *oracle) check(t *testing.T, r *rand.Rand, tokens []string) api.Errno {
	t.Helper()
	i, want := o.judge(tokens)
	s, places := lay(r, tokens)
	p, at, e := tree.Parse(s)
	if want != api.OK {
		if e != want || at != places[i] || !same(p, api.Program{}) {
			t.Fatalf("P7.1: Parse(%q) = %v, %d at %d, want %d at %d", s, p, e, at, want, places[i])
		}
		return want
	}
	if e != api.OK || at != 0 || !slices.Equal(told(p), tokens) {
		t.Fatalf("P7.1: Parse(%q) = %v, %d at %d, which tells %q", s, p, e, at, told(p))
	}
	return want
}

// alphabet is tokens of all kinds.
func alphabet() []string {
	return append(strings.Fields(words+" "+operators+" "+signs), "x", "Ω9", "0", "1", "256", "257", "-7")
}

func newOracle() *oracle {
	o := &oracle{start: grammar(), known: map[*rx]map[string]*rx{}}
	o.known[o.start] = map[string]*rx{}
	return o
}

func TestTheFirstTokenWithWhichNoProgramGoesOn(t *testing.T) {
	o, r := newOracle(), rand.New(rand.NewSource(5))
	base := strings.Fields("array t 4 low fn f ( a , b , c ) { e : } array u 256 high fn main ( ) { a :")
	all := instrs()
	for _, s := range slices.Sorted(maps.Keys(all)) {
		base = append(base, instr(all[s])...)
	}
	base = append(base, strings.Fields("b : return x c : x = const 1 d : } fn g ( x ) { a : jump a }")...)
	seen := map[api.Errno]int{o.check(t, r, base): 1}
	for i := range len(base) + 1 {
		seen[o.check(t, r, base[:i])]++
		if i < len(base) {
			seen[o.check(t, r, slices.Concat(base[:i], base[i+1:]))]++
		}
		for _, s := range alphabet() {
			seen[o.check(t, r, slices.Concat(base[:i], []string{s}, base[i:]))]++
			seen[o.check(t, r, slices.Concat(base[:i], []string{s}, base[min(i+1, len(base)):]))]++
		}
	}
	for _, e := range []api.Errno{api.OK, api.ErrSyntax, api.ErrNumber} {
		if seen[e] < 3 {
			t.Errorf("the test's own texts are told %d but %d times", e, seen[e])
		}
	}
}

func TestShortTexts(t *testing.T) {
	o, r := newOracle(), rand.New(rand.NewSource(6))
	for _, ahead := range []string{"", "array x", "fn x ( )", "fn x (", "fn x ( x ,", "fn x ( ) { x :", "fn x ( ) { x : x =", "fn x ( ) { x : x = phi [ x :", "fn x ( ) { x : x = call x ("} {
		for _, a := range alphabet() {
			for _, b := range alphabet() {
				for _, c := range []string{"", "x", "1", "0", ":", "=", ",", ")", "}", "]"} {
					o.check(t, r, strings.Fields(ahead+" "+a+" "+b+" "+c))
				}
			}
		}
	}
}

func TestTextsThatGoOnByChance(t *testing.T) {
	o, r := newOracle(), rand.New(rand.NewSource(7))
	all := alphabet()
	right := 0
	for range 20000 {
		var tokens []string
		now := o.start
		for range 1 + r.Intn(60) {
			s := all[r.Intn(len(all))]
			for now != nil && o.behind(now, s) == nil && r.Intn(400) > 0 {
				s = all[r.Intn(len(all))]
			}
			tokens = append(tokens, s)
			if now != nil {
				now = o.behind(now, s)
			}
			if now == o.start && r.Intn(4) == 0 {
				break
			}
		}
		if o.check(t, r, tokens) == api.OK {
			right++
		}
	}
	if right < 500 {
		t.Errorf("the test's own texts are right but %d times", right)
	}
}

// maker makes programs by chance, with the tokens that tell them.
type maker struct {
	r      *rand.Rand
	tokens []string
}

func (m *maker) name() string {
	l := []string{"a", "x", "_", "main", "low", "αβγ", "Ω1", "z9", "level", strings.Repeat("ς", 24), "Add"}
	return l[m.r.Intn(len(l))]
}

func (m *maker) names(n int) []string {
	var l []string
	for range n {
		l = append(l, m.name())
	}
	return l
}

// instr makes an instruction; its At is the number of its first token.
func (m *maker) instr() api.Instr {
	x := api.Instr{Kind: uint8(1 + m.r.Intn(13)), At: len(m.tokens)}
	switch x.Kind {
	case api.KConst:
		x.Dst, x.Num = m.name(), int64(m.r.Uint64())>>m.r.Intn(64)
	case api.KBin:
		x.Dst, x.Op, x.Args = m.name(), uint8(1+m.r.Intn(12)), m.names(2)
	case api.KPhi:
		n := 1 + m.r.Intn(4)
		x.Dst, x.From, x.Args = m.name(), m.names(n), m.names(n)
	case api.KLoad, api.KWrap, api.KRelease:
		x.Dst, x.Ref, x.Args = m.name(), m.name(), m.names(1)
	case api.KStore:
		x.Ref, x.Args = m.name(), m.names(2)
	case api.KCall:
		x.Dst, x.Ref, x.Args = m.name(), m.name(), m.names(m.r.Intn(7))
	case api.KInput:
		x.Dst, x.Ref = m.name(), m.name()
	case api.KOutput:
		x.Ref, x.Args = m.name(), m.names(1)
	case api.KJump:
		x.Ref = m.name()
	case api.KBranch:
		x.Ref, x.Alt, x.Args = m.name(), m.name(), m.names(1)
	case api.KReturn:
		x.Args = m.names(1)
	}
	m.tokens = append(m.tokens, instr(x)...)
	return x
}

func (m *maker) function() api.Func {
	f := api.Func{Name: m.name(), Params: m.names(m.r.Intn(7)), At: len(m.tokens)}
	m.tokens = append(append(append(m.tokens, "fn", f.Name), inner(f.Params)...), "{")
	for range 1 + m.r.Intn(4) {
		b := api.Block{Name: m.name(), At: len(m.tokens)}
		m.tokens = append(m.tokens, b.Name, ":")
		for range m.r.Intn(5) {
			b.Code = append(b.Code, m.instr())
		}
		f.Blocks = append(f.Blocks, b)
	}
	m.tokens = append(m.tokens, "}")
	return f
}

func (m *maker) program() api.Program {
	var p api.Program
	for range m.r.Intn(5) {
		if m.r.Intn(2) == 0 {
			p.Funcs = append(p.Funcs, m.function())
			continue
		}
		a := api.Array{Name: m.name(), Size: 1 + m.r.Intn(256), Level: m.name(), At: len(m.tokens)}
		m.tokens = append(m.tokens, "array", a.Name, strconv.Itoa(a.Size), a.Level)
		p.Arrays = append(p.Arrays, a)
	}
	return p
}

// shift makes places of numbers of tokens.
func shift(p api.Program, places []int) {
	for i := range p.Arrays {
		p.Arrays[i].At = places[p.Arrays[i].At]
	}
	for i := range p.Funcs {
		p.Funcs[i].At = places[p.Funcs[i].At]
		for j := range p.Funcs[i].Blocks {
			b := &p.Funcs[i].Blocks[j]
			b.At = places[b.At]
			for k := range b.Code {
				b.Code[k].At = places[b.Code[k].At]
			}
		}
	}
}

func TestProgramsAreReadBack(t *testing.T) {
	r := rand.New(rand.NewSource(8))
	for range 20000 {
		m := &maker{r: r}
		want := m.program()
		s, places := lay(r, m.tokens)
		shift(want, places)
		if p, at, e := tree.Parse(s); e != api.OK || at != 0 || !same(p, want) {
			t.Fatalf("P7.1: Parse(%q) = %v, %d at %d, want %v", s, p, e, at, want)
		}
	}
}

func TestTheErrorsOfTokens(t *testing.T) {
	r := rand.New(rand.NewSource(9))
	bytes := []string{";", "07", "-", "é", "\xff", "\xce", "9223372036854775808", "-0", "5x", "\r", strings.Repeat("a", 25), "x", "}", "fn", " ", "\n", "#"}
	for range 20000 {
		m := &maker{r: r}
		m.program()
		s, _ := lay(r, m.tokens)
		for range r.Intn(3) {
			i := r.Intn(len(s) + 1)
			s = s[:i] + bytes[r.Intn(len(bytes))] + s[i:]
		}
		if l, place, want := token.All(s); want != api.OK {
			checkWrong(t, s, place, want)
		} else if p, at, e := tree.Parse(s); e == api.OK && len(told(p)) != len(l) || e != api.OK && e != api.ErrSyntax && e != api.ErrNumber && e != api.ErrFull {
			t.Fatalf("P7.1: Parse(%q) = %v, %d at %d", s, p, e, at)
		}
	}
}

// shake changes each list of a program, and what stands behind its end.
func shake(p api.Program) {
	list := func(l []string) {
		l = l[:cap(l)]
		for i := range l {
			l[i] = "shaken"
		}
	}
	for _, f := range p.Funcs {
		list(f.Params)
		for _, b := range f.Blocks {
			for _, x := range b.Code {
				list(x.Args)
				list(x.From)
			}
			clear(b.Code[:cap(b.Code)])
		}
		clear(f.Blocks[:cap(f.Blocks)])
	}
	clear(p.Funcs[:cap(p.Funcs)])
	clear(p.Arrays[:cap(p.Arrays)])
}

func TestAnswersShareNothing(t *testing.T) {
	m := &maker{r: rand.New(rand.NewSource(10))}
	for len(m.tokens) < 500 {
		m.function()
	}
	s := "array t 1 l array u 2 l\n" + strings.Join(m.tokens, " ")
	first, second, want := checkRight(t, s), checkRight(t, s), checkRight(t, s)
	shake(first)
	if !same(second, want) || !same(checkRight(t, s), want) {
		t.Error("R4: two answers share their lists")
	}
	// Within one answer no list's spare room may be another one's.
	for i := range second.Funcs {
		for j := range second.Funcs[i].Blocks {
			code := second.Funcs[i].Blocks[j].Code
			for k := range code {
				before := plain(second)
				_ = append(append(code[k].Args, "shaken"), code[k].From...)
				_ = append(append(code[k].From, "shaken"), code[k].Args...)
				if !same(second, before) {
					t.Fatalf("R4: two lists of one answer share their memory, at %d", code[k].At)
				}
			}
		}
	}
}
