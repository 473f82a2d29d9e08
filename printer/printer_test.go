package printer_test

import (
	"maps"
	"math"
	"math/rand"
	"reflect"
	"slices"
	"strconv"
	"strings"
	"testing"

	"interdict/api"
	"interdict/printer"
	"interdict/tree"
)

const operators = "add sub mul div mod and or xor shl shr eq less"

// bare is a program without its Ats, with nil for each list that is empty, in memory of its own.
func bare(p api.Program) api.Program {
	list := func(l []string) []string { return append([]string(nil), l...) }
	q := api.Program{Arrays: append([]api.Array(nil), p.Arrays...), Funcs: append([]api.Func(nil), p.Funcs...)}
	for i := range q.Arrays {
		q.Arrays[i].At = 0
	}
	for i, f := range q.Funcs {
		q.Funcs[i].At, q.Funcs[i].Params = 0, list(f.Params)
		q.Funcs[i].Blocks = append([]api.Block(nil), f.Blocks...)
		for j, b := range f.Blocks {
			code := append([]api.Instr(nil), b.Code...)
			for k, x := range code {
				code[k].At, code[k].Args, code[k].From = 0, list(x.Args), list(x.From)
			}
			q.Funcs[i].Blocks[j].At, q.Funcs[i].Blocks[j].Code = 0, code
		}
	}
	return q
}

// same: are two programs the same, but for their Ats?
func same(p, q api.Program) bool { return reflect.DeepEqual(bare(p), bare(q)) }

// of is a program of one block of some instructions.
func of(code ...api.Instr) api.Program {
	return api.Program{Funcs: []api.Func{{Name: "main", Blocks: []api.Block{{Name: "a", Code: code}}}}}
}

// line is the line of an instruction, as the chapter says; of one that may not be it is any text.
func line(x api.Instr) string {
	args := strings.Join(x.Args, " ")
	operator := "none"
	if x.Op >= 1 && x.Op <= 12 {
		operator = strings.Fields(operators)[x.Op-1]
	}
	switch x.Kind {
	case api.KConst:
		return x.Dst + " = const " + strconv.FormatInt(x.Num, 10)
	case api.KBin:
		return x.Dst + " = " + operator + " " + args
	case api.KPhi:
		var l []string
		for i := range min(len(x.From), len(x.Args)) {
			l = append(l, x.From[i]+": "+x.Args[i])
		}
		return x.Dst + " = phi [" + strings.Join(l, ", ") + "]"
	case api.KLoad:
		return x.Dst + " = load " + x.Ref + " " + args
	case api.KWrap:
		return x.Dst + " = wrap " + x.Ref + " " + args
	case api.KStore:
		return "store " + x.Ref + " " + args
	case api.KCall:
		return x.Dst + " = call " + x.Ref + "(" + strings.Join(x.Args, ", ") + ")"
	case api.KInput:
		return x.Dst + " = input " + x.Ref
	case api.KOutput:
		return "output " + x.Ref + " " + args
	case api.KRelease:
		return x.Dst + " = release " + args + " " + x.Ref
	case api.KJump:
		return "jump " + x.Ref
	case api.KBranch:
		return "branch " + args + " " + x.Ref + " " + x.Alt
	case api.KReturn:
		return "return " + args
	}
	return ""
}

// text is the text of a program, as the chapter says; of one that may not be it is any text.
func text(p api.Program) string {
	var b strings.Builder
	for _, a := range p.Arrays {
		b.WriteString("array " + a.Name + " " + strconv.Itoa(a.Size) + " " + a.Level + "\n")
	}
	for _, f := range p.Funcs {
		b.WriteString("fn " + f.Name + "(" + strings.Join(f.Params, ", ") + ") {\n")
		for _, k := range f.Blocks {
			b.WriteString(k.Name + ":\n")
			for _, x := range k.Code {
				b.WriteString("  " + line(x) + "\n")
			}
		}
		b.WriteString("}\n")
	}
	return b.String()
}

// mayBe: may a program be? If none is told of the text in which all of it would stand, none is of any (that is no longer).
func mayBe(p api.Program) bool {
	q, _, e := tree.Parse(text(p))
	return e == api.OK && same(p, q)
}

// check holds what is said of a program, the text of which is not too long, against the chapter.
func check(t *testing.T, p api.Program) bool {
	t.Helper()
	before, may := bare(p), mayBe(p)
	if got := printer.Right(p); got != may {
		t.Fatalf("P8.1: Right(%v) = %v", p, got)
	}
	s, e := printer.Print(p)
	if may && (s != text(p) || e != api.OK) || !may && (s != "" || e != api.ErrArg) {
		t.Fatalf("P8.1: Print(%v) = %q, %d", p, s, e)
	}
	if !same(p, before) {
		t.Fatalf("R4: what was handed in is changed: %v, was %v", p, before)
	}
	return may
}

// checkLine holds what is said of an instruction against the chapter.
func checkLine(t *testing.T, x api.Instr) bool {
	t.Helper()
	may := mayBe(of(x))
	s, e := printer.Line(x)
	if may && (s != line(x) || e != api.OK) || !may && (s != "" || e != api.ErrArg) {
		t.Fatalf("P8.2: Line(%v) = %q, %d, want %q", x, s, e, line(x))
	}
	return may
}

// Each instruction, by its line.
func instrs() map[string]api.Instr {
	all := map[string]api.Instr{
		"x = const 7":                    {Kind: api.KConst, Dst: "x", Num: 7},
		"x = const 0":                    {Kind: api.KConst, Dst: "x"},
		"x = const 9223372036854775807":  {Kind: api.KConst, Dst: "x", Num: math.MaxInt64},
		"x = const -9223372036854775808": {Kind: api.KConst, Dst: "x", Num: math.MinInt64},
		"x = phi [a: y]":                 {Kind: api.KPhi, Dst: "x", From: []string{"a"}, Args: []string{"y"}},
		"x = phi [a: y, b: z]":           {Kind: api.KPhi, Dst: "x", From: []string{"a", "b"}, Args: []string{"y", "z"}},
		"x = load t i":                   {Kind: api.KLoad, Dst: "x", Ref: "t", Args: []string{"i"}},
		"x = wrap t i":                   {Kind: api.KWrap, Dst: "x", Ref: "t", Args: []string{"i"}},
		"store t i v":                    {Kind: api.KStore, Ref: "t", Args: []string{"i", "v"}},
		"x = call f()":                   {Kind: api.KCall, Dst: "x", Ref: "f"},
		"x = call f(y)":                  {Kind: api.KCall, Dst: "x", Ref: "f", Args: []string{"y"}},
		"x = call f(a, b, c, d, e, g)":   {Kind: api.KCall, Dst: "x", Ref: "f", Args: []string{"a", "b", "c", "d", "e", "g"}},
		"x = input key":                  {Kind: api.KInput, Dst: "x", Ref: "key"},
		"output net v":                   {Kind: api.KOutput, Ref: "net", Args: []string{"v"}},
		"x = release v low":              {Kind: api.KRelease, Dst: "x", Ref: "low", Args: []string{"v"}},
		"jump b":                         {Kind: api.KJump, Ref: "b"},
		"branch v b c":                   {Kind: api.KBranch, Ref: "b", Alt: "c", Args: []string{"v"}},
		"return v":                       {Kind: api.KReturn, Args: []string{"v"}},
		"Ω_1 = less ς αβ":                {Kind: api.KBin, Op: api.OpLess, Dst: "Ω_1", Args: []string{"ς", "αβ"}},
	}
	for i, name := range strings.Fields(operators) {
		all["x = "+name+" a b"] = api.Instr{Kind: api.KBin, Op: uint8(i + 1), Dst: "x", Args: []string{"a", "b"}}
	}
	return all
}

// bases are the same instructions, always in one order.
func bases() []api.Instr {
	var l []api.Instr
	all := instrs()
	for _, s := range slices.Sorted(maps.Keys(all)) {
		l = append(l, all[s])
	}
	return l
}

func TestLine(t *testing.T) {
	for s, x := range instrs() {
		for _, at := range []int{0, 1, -1, math.MaxInt, math.MinInt} {
			x.At = at
			if got, e := printer.Line(x); got != s || e != api.OK {
				t.Errorf("P8.2: Line(%v) = %q, %d, want %q", x, got, e, s)
			}
			if !checkLine(t, x) {
				t.Errorf("the test's own reading refuses %q", s)
			}
		}
		// An empty list is as good as none.
		if len(x.Args) == 0 {
			x.Args = []string{}
		}
		if len(x.From) == 0 {
			x.From = []string{}
		}
		if got, e := printer.Line(x); got != s || e != api.OK {
			t.Errorf("R3: Line(%v) = %q, %d, want %q", x, got, e, s)
		}
	}
}

// some are names, and what is none.
func some() []string {
	l := strings.Fields("x Ω9 main low αβγ levels _ add fn phi return array 1 -1 1x a-b a,b a: :a (a) é \u03a2 x=y # #a a\xff \xce")
	return append(l, "", " ", "a b", " a", "a ", "a\n", "a\x00", "a # b", "a\n  return b", "x = const 1\n  y", strings.Repeat("ω", 24), strings.Repeat("ω", 25), strings.Repeat("a", 70000))
}

// lists are lists of names, and of what is none.
func lists() [][]string {
	l := [][]string{nil, {}}
	for _, n := range []int{1, 2, 3, 4, 5, 6, 7, 8, 63, 64, 65, 66} {
		l = append(l, slices.Repeat([]string{"v"}, n))
	}
	for _, s := range some() {
		l = append(l, []string{s}, []string{"v", s}, []string{s, "v"}, []string{"v", "v", "v", "v", "v", s})
	}
	return l
}

func TestLineOfWhatMayNotBe(t *testing.T) {
	may := map[bool]int{}
	names, args := some(), lists()
	for _, base := range bases() {
		x := base
		for kind := range 256 {
			x.Kind = uint8(kind)
			may[checkLine(t, x)]++
		}
		for x = base; x.Op < 255; x.Op++ {
			may[checkLine(t, x)]++
		}
		for _, s := range names {
			x = base
			x.Dst = s
			may[checkLine(t, x)]++
			x = base
			x.Ref = s
			may[checkLine(t, x)]++
			x = base
			x.Alt = s
			may[checkLine(t, x)]++
		}
		for _, l := range args {
			x = base
			x.Args = l
			may[checkLine(t, x)]++
			x.From = l
			may[checkLine(t, x)]++
			x.Args = base.Args
			may[checkLine(t, x)]++
		}
		for _, n := range []int64{0, 1, -1, math.MaxInt64, math.MinInt64} {
			x = base
			x.Num = n
			may[checkLine(t, x)]++
		}
	}
	if may[true] < 500 || may[false] < 5000 {
		t.Errorf("the test's own instructions: %v", may)
	}
}

func TestLineOfWhateverIsPutTogether(t *testing.T) {
	r := rand.New(rand.NewSource(11))
	names := []string{"", "", "x", "y", "x", "y", "Ω9", "add", "1", "a b"}
	name := func() string { return names[r.Intn(len(names))] }
	list := func() []string {
		var l []string
		for range r.Intn(4) {
			l = append(l, names[2+r.Intn(4)])
		}
		return l
	}
	right := 0
	for range 200000 {
		x := api.Instr{Kind: uint8(r.Intn(15)), Dst: name(), Ref: name(), At: r.Intn(9)}
		if r.Intn(3) == 0 {
			x.Alt = name()
		}
		if r.Intn(3) == 0 {
			x.Op = uint8(r.Intn(14))
		}
		if r.Intn(3) == 0 {
			x.Num = int64(r.Intn(3))
		}
		if r.Intn(4) > 0 {
			x.Args = list()
		}
		if r.Intn(3) == 0 {
			x.From = list()
		}
		if checkLine(t, x) {
			right++
		}
	}
	if right < 2000 {
		t.Errorf("the test's own instructions are right but %d times", right)
	}
}

func TestLineOfTheGreatestPhi(t *testing.T) {
	x := api.Instr{Kind: api.KPhi, Dst: strings.Repeat("ω", 24)}
	for range 64 {
		x.From, x.Args = append(x.From, strings.Repeat("Ω", 24)), append(x.Args, strings.Repeat("ς", 24))
	}
	if !checkLine(t, x) {
		t.Error("the test's own reading refuses it")
	}
	x.From = append(x.From, "a")
	checkLine(t, x)
	x.Args = append(x.Args, "a")
	if checkLine(t, x) {
		t.Error("the test's own reading takes 65 pairs")
	}
}

func TestPrint(t *testing.T) {
	for s, want := range map[string]string{
		"fn main ( ) {a:x=const 7 y = call f(x,x)return y}": "fn main() {\na:\n  x = const 7\n  y = call f(x, x)\n  return y\n}\n",
		"":           "",
		"# nothing ": "",
		"fn f(){a:}": "fn f() {\na:\n}\n",
		"fn f(a,b , c){a:b:jump a c:}fn g(x){a:}":                                   "fn f(a, b, c) {\na:\nb:\n  jump a\nc:\n}\nfn g(x) {\na:\n}\n",
		"fn f(){a:}array t 256 low fn g(){b:}array\tu\n1 Ω # é":                     "array t 256 low\narray u 1 Ω\nfn f() {\na:\n}\nfn g() {\nb:\n}\n",
		"fn f(){a:x=phi[a:y,b:z]store t x y output n x x=release x l branch x a b}": "fn f() {\na:\n  x = phi [a: y, b: z]\n  store t x y\n  output n x\n  x = release x l\n  branch x a b\n}\n",
		"fn f(){a:x=load t i x=wrap t i x=input k x=shr x y x=call f()x=const-7}":   "fn f() {\na:\n  x = load t i\n  x = wrap t i\n  x = input k\n  x = shr x y\n  x = call f()\n  x = const -7\n}\n",
	} {
		p, _, e := tree.Parse(s)
		if e != api.OK {
			t.Fatalf("the test's own text %q is refused: %d", s, e)
		}
		if got, e := printer.Print(p); got != want || e != api.OK {
			t.Errorf("P8.1: Print of Parse(%q) = %q, %d, want %q", s, got, e, want)
		}
		if !check(t, p) {
			t.Errorf("the test's own reading refuses %q", s)
		}
		back, at, e := tree.Parse(want)
		if e != api.OK || at != 0 || !same(back, p) {
			t.Errorf("P8.1: Parse(%q) = %v, %d at %d, want %v", want, back, e, at, p)
		}
	}
}

// maker makes programs by chance.
type maker struct {
	*rand.Rand
	all []api.Instr
	bad []string
}

func (m maker) name() string {
	l := []string{"a", "x", "_", "main", "low", "αβγ", "Ω1", "z9", "level", strings.Repeat("ς", 24), "Add"}
	return l[m.Intn(len(l))]
}

func (m maker) names(n int) []string {
	l := make([]string, 0, n+m.Intn(3))
	for range n {
		l = append(l, m.name())
	}
	return l
}

func (m maker) function() api.Func {
	f := api.Func{Name: m.name(), Params: m.names(m.Intn(7)), At: m.Intn(99) - 50}
	for range 1 + m.Intn(4) {
		b := api.Block{Name: m.name(), At: m.Intn(99) - 50}
		for range m.Intn(5) {
			x := m.all[m.Intn(len(m.all))]
			x.Args, x.From, x.At = m.names(len(x.Args)), m.names(len(x.From)), m.Intn(99)-50
			for _, s := range []*string{&x.Dst, &x.Ref, &x.Alt} {
				if *s != "" {
					*s = m.name()
				}
			}
			b.Code = append(b.Code, x)
		}
		f.Blocks = append(f.Blocks, b)
	}
	return f
}

func (m maker) program() api.Program {
	var p api.Program
	for range m.Intn(3) {
		p.Arrays = append(p.Arrays, api.Array{Name: m.name(), Size: 1 + m.Intn(256), Level: m.name(), At: m.Intn(99) - 50})
	}
	for range m.Intn(4) {
		p.Funcs = append(p.Funcs, m.function())
	}
	return p
}

// spoil changes something of a program, so that it may no more be, mostly.
func (m maker) spoil(p api.Program) {
	bad := func(s *string) { *s = m.bad[m.Intn(len(m.bad))] }
	if len(p.Arrays) > 0 && m.Intn(3) == 0 {
		a := &p.Arrays[m.Intn(len(p.Arrays))]
		switch m.Intn(3) {
		case 0:
			bad(&a.Name)
		case 1:
			bad(&a.Level)
		default:
			a.Size = []int{0, -1, 1, 256, 257, 1 << 32, math.MinInt, math.MaxInt}[m.Intn(8)]
		}
		return
	}
	if len(p.Funcs) == 0 {
		return
	}
	f := &p.Funcs[m.Intn(len(p.Funcs))]
	b := &f.Blocks[m.Intn(len(f.Blocks))]
	switch m.Intn(5) {
	case 0:
		bad(&f.Name)
	case 1:
		bad(&b.Name)
	case 2:
		f.Blocks = f.Blocks[:m.Intn(2)]
	case 3:
		f.Params = append(f.Params, "x", "y")
		bad(&f.Params[m.Intn(len(f.Params))])
	case 4:
		if len(b.Code) > 0 {
			x := &b.Code[m.Intn(len(b.Code))]
			bad([]*string{&x.Dst, &x.Ref, &x.Alt}[m.Intn(3)])
			x.Kind += uint8(m.Intn(2))
		}
	}
}

func TestProgramsMadeByChance(t *testing.T) {
	m := maker{rand.New(rand.NewSource(12)), bases(), some()}
	may := map[bool]int{}
	for range 20000 {
		p := m.program()
		if !check(t, p) {
			t.Fatalf("the test's own reading refuses %v", p)
		}
		m.spoil(p)
		may[check(t, p)]++
	}
	if may[true] < 1000 || may[false] < 5000 {
		t.Errorf("the test's own programs: %v", may)
	}
}

// repeat is n times the same thing.
func repeat[T any](n int, x T) []T { return slices.Repeat([]T{x}, n) }

func TestAsManyAsMayBe(t *testing.T) {
	array := api.Array{Name: "t", Size: 1, Level: "l"}
	block := api.Block{Name: "a"}
	fn := api.Func{Name: "f", Blocks: []api.Block{block}}
	jump := api.Instr{Kind: api.KJump, Ref: "a"}
	blocks := func(n int) api.Program {
		return api.Program{Funcs: []api.Func{fn, {Name: "f", Blocks: repeat(n, block)}, fn}}
	}
	params := func(n int) api.Program {
		return api.Program{Funcs: []api.Func{fn, {Name: "f", Params: repeat(n, "x"), Blocks: fn.Blocks}}}
	}
	// So many instructions stand in several blocks of several functions.
	code := func(n int) api.Program {
		b := []api.Block{{Name: "a", Code: repeat(1000, jump)}, {Name: "b", Code: repeat(1048, jump)}}
		return api.Program{Funcs: []api.Func{{Name: "f", Blocks: b}, fn, {Name: "g", Blocks: append(b[:1:1], api.Block{Name: "c", Code: repeat(n-3048, jump)})}}}
	}
	for _, c := range []struct {
		p   api.Program
		may bool
	}{
		{api.Program{Arrays: repeat(16, array), Funcs: repeat(64, fn)}, true},
		{api.Program{Arrays: repeat(17, array)}, false},
		{api.Program{Funcs: repeat(65, fn)}, false},
		{api.Program{Arrays: []api.Array{{Name: "t", Size: 256, Level: "t"}}}, true},
		{api.Program{Arrays: []api.Array{{Name: "t", Size: 257, Level: "t"}}}, false},
		{api.Program{Arrays: []api.Array{{Name: "t", Size: 0, Level: "t"}}}, false},
		{api.Program{Arrays: []api.Array{{Name: "t", Size: -1, Level: "t"}}}, false},
		{api.Program{Arrays: []api.Array{{Name: "t", Size: 1}}}, false},
		{api.Program{Arrays: []api.Array{{Size: 1, Level: "t"}}}, false},
		{api.Program{Arrays: []api.Array{array, {}}}, false},
		{api.Program{Funcs: []api.Func{fn, {}}}, false},
		{blocks(1), true},
		{blocks(64), true},
		{blocks(65), false},
		{blocks(0), false},
		{params(6), true},
		{params(7), false},
		{code(4096), true},
		{code(4097), false},
		{of(repeat(4096, jump)...), true},
		{of(repeat(4097, jump)...), false},
		{of(append(repeat(4095, jump), api.Instr{})...), false},
		{api.Program{Funcs: repeat(64, of(repeat(64, jump)...).Funcs[0])}, true},
		{api.Program{Funcs: repeat(63, of(repeat(66, jump)...).Funcs[0])}, false},
	} {
		if may := check(t, c.p); may != c.may {
			t.Errorf("P8.1: Right of %d arrays, %d functions: %v, want %v", len(c.p.Arrays), len(c.p.Funcs), may, c.may)
		}
	}
	for _, p := range []api.Program{
		{Arrays: make([]api.Array, 1<<16)},
		{Funcs: make([]api.Func, 1<<16)},
		{Funcs: []api.Func{{Name: "f", Blocks: make([]api.Block, 1<<16)}}},
		{Funcs: []api.Func{{Name: "f", Params: repeat(1<<16, "x"), Blocks: fn.Blocks}}},
		of(repeat(1<<16, jump)...),
		of(api.Instr{Kind: api.KPhi, Dst: "x", From: repeat(1<<16, "a"), Args: repeat(1<<16, "a")}),
	} {
		if s, e := printer.Print(p); printer.Right(p) || s != "" || e != api.ErrArg {
			t.Errorf("P8.1: Print of a great many = %.20q, %d", s, e)
		}
	}
}

// filled is a program whose text has n bytes, each value's name being of letters of one or two bytes.
func filled(n int) api.Program {
	var code []api.Instr
	left := n - len(text(of()))
	for left > 0 {
		// A line `  return ` and a byte 10 take ten bytes; what is left must be enough for one more line.
		name := min(48, left-10)
		if rest := left - 10 - name; rest > 0 && rest < 11 {
			name -= 11
		}
		code = append(code, api.Instr{Kind: api.KReturn, Args: []string{strings.Repeat("ω", name/2) + strings.Repeat("x", name%2)}})
		left -= 10 + name
	}
	return of(code...)
}

func TestPrintOfWhatIsTooLong(t *testing.T) {
	for n := 65436; n <= 65636; n++ {
		p := filled(n)
		want := text(p)
		if len(want) != n {
			t.Fatalf("the test's own text has %d bytes, not %d", len(want), n)
		}
		if !printer.Right(p) {
			t.Errorf("P8.1: Right of what needs %d bytes is false", n)
		}
		s, e := printer.Print(p)
		if n <= 65536 && (s != want || e != api.OK) || n > 65536 && (s != "" || e != api.ErrLong) {
			t.Errorf("P8.1: Print of what needs %d bytes = %.20q, %d", n, s, e)
		}
		if back, _, e := tree.Parse(s); n <= 65536 && (e != api.OK || !same(back, p)) {
			t.Errorf("P8.1: Parse of a text of %d bytes: %d", n, e)
		}
		p.Funcs[0].Name = "add"
		if s, e := printer.Print(p); printer.Right(p) || s != "" || e != api.ErrArg {
			t.Errorf("P8.1: Print of what may not be, of %d bytes = %.20q, %d", n, s, e)
		}
	}
}

func TestPrintOfWhatAShorterTextSays(t *testing.T) {
	p, _, e := tree.Parse("fn f(){a:" + strings.Repeat("x=add y z ", 4096) + "}")
	if e != api.OK || !printer.Right(p) {
		t.Fatalf("P8.1: Right of what %d told", e)
	}
	if s, e := printer.Print(p); s != text(p) || e != api.OK {
		t.Errorf("P8.1: %.40q, %d", s, e)
	}
	p, _, e = tree.Parse("fn f(){a:" + strings.Repeat("x=call f(y,z) ", 4096) + "}")
	if e != api.OK || !printer.Right(p) {
		t.Fatalf("P8.1: Right of what %d told", e)
	}
	if s, e := printer.Print(p); s != "" || e != api.ErrLong {
		t.Errorf("P8.1: %.40q, %d", s, e)
	}
}

func TestTheGreatestOfAll(t *testing.T) {
	long := strings.Repeat("ω", 24)
	phi := api.Instr{Kind: api.KPhi, Dst: long, From: repeat(64, long), Args: repeat(64, long)}
	fn := api.Func{Name: long, Params: repeat(6, long), Blocks: repeat(64, api.Block{Name: long, Code: []api.Instr{phi}})}
	p := api.Program{Arrays: repeat(16, api.Array{Name: long, Size: 256, Level: long}), Funcs: repeat(64, fn)}
	if s, e := printer.Print(p); !printer.Right(p) || s != "" || e != api.ErrLong {
		t.Errorf("P8.1: %v, %.20q, %d", printer.Right(p), s, e)
	}
}

func TestAnyAts(t *testing.T) {
	p, _, _ := tree.Parse("array t 1 l fn f(x) { a: return x }")
	want := text(p)
	for _, at := range []int{0, 1, -1, math.MinInt, math.MaxInt} {
		p.Arrays[0].At, p.Funcs[0].At, p.Funcs[0].Blocks[0].At, p.Funcs[0].Blocks[0].Code[0].At = at, -at, at, -at
		if s, e := printer.Print(p); !printer.Right(p) || s != want || e != api.OK {
			t.Errorf("P8.1: with At %d: %q, %d", at, s, e)
		}
	}
}

func TestNothingIsWrittenBehindLists(t *testing.T) {
	room := func(l ...string) []string { return append(l, "kept", "kept")[:len(l)] }
	code := make([]api.Instr, 2, 4)
	code[0] = api.Instr{Kind: api.KCall, Dst: "x", Ref: "f", Args: room("x", "y")}
	code[1] = api.Instr{Kind: api.KPhi, Dst: "x", From: room("a", "b"), Args: room("x", "y")}
	p := of(code...)
	p.Funcs[0].Params = room("a", "b", "c")
	for _, x := range code {
		printer.Line(x)
	}
	if s, e := printer.Print(p); s != text(p) || e != api.OK {
		t.Errorf("P8.1: %q, %d", s, e)
	}
	for _, l := range [][]string{p.Funcs[0].Params, code[0].Args, code[1].Args, code[1].From} {
		if behind := l[len(l) : len(l)+2]; behind[0] != "kept" || behind[1] != "kept" {
			t.Errorf("R4: behind %q stands %q", l, behind)
		}
	}
}
