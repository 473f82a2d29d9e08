package policy_test

import (
	"math"
	"math/rand"
	"slices"
	"strconv"
	"strings"
	"testing"

	"interdict/api"
	"interdict/lattice"
	"interdict/policy"
)

// same: are two policies the same, a list that is not there being an empty one?
func same(p, q api.Policy) bool {
	return slices.Equal(p.Levels, q.Levels) && slices.Equal(p.Up, q.Up) && slices.Equal(p.Ins, q.Ins) && slices.Equal(p.Outs, q.Outs) && p.Depth == q.Depth
}

// two is the policy of the chapter's first example.
const two = "level low\nlevel high\nflow low high\ninput key high\noutput net low\ndepth 8"

// made is what two says.
func made() api.Policy {
	return api.Policy{
		Levels: []string{"low", "high"},
		Up:     []uint64{3, 2},
		Ins:    []api.Channel{{Name: "key", Level: 1}},
		Outs:   []api.Channel{{Name: "net", Level: 0}},
		Depth:  8,
	}
}

// numbered are lines of one beginning, each with the name that its number makes, and an end.
func numbered(n int, begin, end string) string {
	var b strings.Builder
	for i := range n {
		b.WriteString(begin + strconv.Itoa(i) + end + "\n")
	}
	return b.String()
}

// greatest is a text with as many levels and channels as may be, the levels in one row.
func greatest() string {
	s := numbered(64, "level l", "")
	for i := range 63 {
		s += "flow l" + strconv.Itoa(i) + " l" + strconv.Itoa(i+1) + "\n"
	}
	return s + numbered(32, "input c", " l0") + numbered(32, "output c", " l63") + "depth 64\n"
}

func TestParse(t *testing.T) {
	one := func(names ...string) api.Policy { return api.Policy{Levels: names, Up: []uint64{1}, Depth: 1} }
	for s, want := range map[string]api.Policy{
		two:        made(),
		two + "\n": made(),
		"\n\n \t\n# a remark \u00e9 é;\n" + strings.ReplaceAll(two, "\n", "\n\n") + "\n#\n": made(),
		strings.ReplaceAll(strings.ReplaceAll(two, " ", "\t \t"), "\n", "  \n\t"):           made(),
		"depth 8\nlevel low\noutput net low\nlevel high\ninput key high\nflow low high":     made(),
		two + "\n#level low\n #depth 9 # x\n##":                                             made(),
		two + "\nflow low low\nflow low high\nflow high high":                               made(),
		"level a\ndepth 1":                               one("a"),
		"depth 1\nlevel level":                           one("level"),
		"level depth\ndepth 1":                           one("depth"),
		"level flow\ndepth 1":                            one("flow"),
		"level Add\ndepth 1":                             one("Add"),
		"level _9α\ndepth 1":                             one("_9α"),
		"level high\nlevel low\nflow low high\ndepth 64": {Levels: []string{"high", "low"}, Up: []uint64{1, 3}, Depth: 64},
		"level " + strings.Repeat("ω", 24) + "\ndepth 1": one(strings.Repeat("ω", 24)),
		// Each kind has its names by itself.
		"level a\ninput a a\noutput a a\ndepth 1": {Levels: []string{"a"}, Up: []uint64{1}, Ins: []api.Channel{{Name: "a"}}, Outs: []api.Channel{{Name: "a"}}, Depth: 1},
		"level a\nlevel b\nlevel c\nlevel d\nflow c d\nflow a b\nflow b d\nflow a c\ndepth 2\ninput y d\ninput x b": {
			Levels: []string{"a", "b", "c", "d"}, Up: []uint64{15, 10, 12, 8}, Ins: []api.Channel{{Name: "y", Level: 3}, {Name: "x", Level: 1}}, Depth: 2,
		},
	} {
		p, at, e := policy.Parse(s)
		if e != api.OK || at != 0 || !same(p, want) {
			t.Errorf("P6.1: Parse(%q) = %v, %d, %d, want %v", s, p, at, e, want)
		}
	}
}

func TestParseOfTheGreatest(t *testing.T) {
	p, at, e := policy.Parse(greatest())
	if e != api.OK || at != 0 || len(p.Levels) != 64 || len(p.Up) != 64 || len(p.Ins) != 32 || len(p.Outs) != 32 || p.Depth != 64 {
		t.Fatalf("P6.1: %v, %d, %d", p, at, e)
	}
	for i := range 64 {
		if p.Levels[i] != "l"+strconv.Itoa(i) || p.Up[i] != math.MaxUint64<<i {
			t.Errorf("P6.1: level %d is %q, %#x", i, p.Levels[i], p.Up[i])
		}
	}
	for i := range 32 {
		name := "c" + strconv.Itoa(i)
		if p.Ins[i] != (api.Channel{Name: name}) || p.Outs[i] != (api.Channel{Name: name, Level: 63}) {
			t.Errorf("P6.1: channels %d are %v, %v", i, p.Ins[i], p.Outs[i])
		}
	}
}

// wrong are lines behind two and a byte 10, at which Parse gives up.
func wrong() map[string]api.Errno {
	all := map[string]api.Errno{
		"flow low none":            api.ErrName,
		"flow none high":           api.ErrName,
		"flow key net":             api.ErrName,
		"flow 1 2":                 api.ErrName,
		"flow add sub":             api.ErrName,
		"flow low high#":           api.ErrName,
		"input x none":             api.ErrName,
		"input x net":              api.ErrName,
		"input x Low":              api.ErrName,
		"output x key":             api.ErrName,
		"output x 0":               api.ErrName,
		"level low":                api.ErrTwice,
		"level high":               api.ErrTwice,
		"input key low":            api.ErrTwice,
		"input key none":           api.ErrTwice,
		"output net low":           api.ErrTwice,
		"output net 7":             api.ErrTwice,
		"depth 8":                  api.ErrTwice,
		"depth 0":                  api.ErrTwice,
		"depth 65":                 api.ErrTwice,
		"level low\nbogus":         api.ErrTwice,
		"flow low none\nlevel low": api.ErrName,
	}
	long := strings.Repeat("a", 25)
	for _, s := range []string{
		"bogus", "levels x", "Level x", "LEVEL x", "leve x", "low", "add", "\"level\" x", "level# x", "8", "-", "é", "\x00", "\r", "\v", "\f", "\u00a0", "\u2003#",
		"level", "level x y", "level x #", "level # x", "level 1", "level 1a", "level -1", "level é", "level aé", "level a-b", "level a,b", "level x\r", "level x\v", "level \u00a0x", "level x\x00", "level " + long,
		"flow", "flow low", "flow low high low", "flow low high #", "flow none",
		"input", "input x", "input x low high", "input x low #", "input 1 low", "input é low", "input " + long + " low", "input 1 none", "input x,y low", "input add none", "input key",
		"output", "output x", "output x low high", "output 1 low", "output é low", "output " + long + " low", "output mul none", "output net",
		"depth", "depth 1 2", "depth x", "depth 01", "depth +1", "depth -0", "depth 1.0", "depth 9223372036854775808", "depth 8\r", "depth ８", "depth 8#", "depth 8 #",
		"bogus\nlevel low", "bogus\n\xc3\xa9",
	} {
		all[s] = api.ErrLine
	}
	for _, w := range []string{
		"array", "fn", "const", "phi", "load", "wrap", "store", "call", "input", "output", "release", "jump", "branch", "return",
		"add", "sub", "mul", "div", "mod", "and", "or", "xor", "shl", "shr", "eq", "less",
	} {
		all["level "+w], all["input "+w+" low"], all["output "+w+" low"] = api.ErrLine, api.ErrLine, api.ErrLine
	}
	return all
}

func TestParseOfWrongLines(t *testing.T) {
	for line, want := range wrong() {
		for _, between := range []string{"\n", "\n \t", "\n# é\n\n\t\t  "} {
			for _, behind := range []string{"", "\n", " \n", "\nlevel low low\n", "\ndepth 0"} {
				s := two + between + line + behind
				p, at, e := policy.Parse(s)
				if e != want || at != len(two+between) || !same(p, api.Policy{}) {
					t.Errorf("P6.1: Parse(.. %q) = %v, %d, %d, want %d at %d", between+line+behind, p, at, e, want, len(two+between))
				}
			}
		}
	}
}

func TestParseOfWrongTexts(t *testing.T) {
	levels, ins, outs := numbered(64, "level l", ""), numbered(32, "input c", " l0"), numbered(32, "output c", " l0")
	room := "level l0\ndepth 1\n"
	for _, c := range []struct {
		s  string
		at int
		e  api.Errno
	}{
		{"", 0, api.ErrNone},
		{"\n", 1, api.ErrNone},
		{"# level a", 9, api.ErrNone},
		{"level a", 7, api.ErrNone},
		{"level a\nlevel b", 15, api.ErrNone},
		{"depth 8", 7, api.ErrNone},
		{"depth 8\n \n", 10, api.ErrNone},
		{two[:len(two)-7], len(two) - 7, api.ErrNone},
		{"level low\ninput key high\nlevel high\nflow low high\ndepth 8", 10, api.ErrName},
		{"level low\nflow low high\nlevel high\ndepth 8", 10, api.ErrName},
		{"level a\nlevel b\ndepth 1", 23, api.ErrOrder},
		{"level a\nlevel b\nflow a b\nflow b a\ndepth 1\n", 42, api.ErrOrder},
		{"level a\nlevel b\nlevel c\nflow a b\nflow a c\ndepth 1", 49, api.ErrOrder},
		{"depth 0\nlevel a", 0, api.ErrNumber},
		{"level a\ndepth 65", 8, api.ErrNumber},
		{"level a\n  depth -1\ndepth 8", 10, api.ErrNumber},
		{"depth 9223372036854775807", 0, api.ErrNumber},
		{"depth -9223372036854775808", 0, api.ErrNumber},
		{"depth 4294967297", 0, api.ErrNumber},
		{levels + " level l64", len(levels) + 1, api.ErrFull},
		{levels + "level l63", len(levels), api.ErrTwice},
		{levels + "level 1", len(levels), api.ErrLine},
		{room + ins + "input x l0", len(room + ins), api.ErrFull},
		{room + ins + "input x l1", len(room + ins), api.ErrName},
		{room + ins + "input c31 l1", len(room + ins), api.ErrTwice},
		{room + ins + "input x", len(room + ins), api.ErrLine},
		{room + ins + outs + "output x l0", len(room + ins + outs), api.ErrFull},
		{room + ins + outs + "output x l1", len(room + ins + outs), api.ErrName},
		{room + ins + outs + "output c0 l0", len(room + ins + outs), api.ErrTwice},
		{"bogus\n\xff", 6, api.ErrText},
		{two + "\n# \xe2\x82", len(two) + 3, api.ErrText},
		{"level \xc0\x80", 6, api.ErrText},
		{strings.Repeat(" ", 65536), 65536, api.ErrNone},
		{strings.Repeat("\n", 65535) + "x", 65535, api.ErrLine},
		{strings.Repeat("\n", 65535) + "\xff", 65535, api.ErrText},
		{strings.Repeat(" ", 65537), 0, api.ErrLong},
		{strings.Repeat("\xff", 65537), 0, api.ErrLong},
		{two + strings.Repeat("\n", 65537-len(two)), 0, api.ErrLong},
	} {
		if p, at, e := policy.Parse(c.s); e != c.e || at != c.at || !same(p, api.Policy{}) {
			t.Errorf("P6.1: Parse(%.60q) = %v, %d, %d, want %d at %d", c.s, p, at, e, c.e, c.at)
		}
	}
	if p, at, e := policy.Parse(two + strings.Repeat("\n", 65536-len(two))); e != api.OK || at != 0 || !same(p, made()) {
		t.Errorf("P6.1: of 65536 bytes: %v, %d, %d", p, at, e)
	}
}

// said is what the lines so far have said, by what is asked of the next one.
type said struct {
	levels, ins, outs map[string]int
	pairs             [][2]int
	depth             int
}

// refuse tells a line's error: the first that counts, in the order in which the chapter names them.
func (k *said) refuse(line string) api.Errno {
	w := append(strings.Fields(line), "", "", "")
	words := len(w) - 3
	kinds := map[string]map[string]int{"level": k.levels, "input": k.ins, "output": k.outs}
	_, low := k.levels[w[1]]
	_, high := k.levels[w[2]]
	n, bad := strconv.Atoi(w[1])
	name := w[1] == "a" || w[1] == "b" || w[1] == "c" || w[1] == "d"
	of := kinds[w[0]]
	_, twice := of[w[1]]
	channel := w[0] == "input" || w[0] == "output"
	switch {
	case words == 0 || w[0][0] == '#':
		return api.OK
	case w[0] == "level" && (words != 2 || !name), channel && (words != 3 || !name), w[0] == "flow" && words != 3, w[0] == "depth" && (words != 2 || bad != nil), of == nil && w[0] != "flow" && w[0] != "depth":
		return api.ErrLine
	case of != nil && twice, w[0] == "depth" && k.depth > 0:
		return api.ErrTwice
	case w[0] == "flow" && !(low && high), channel && !high:
		return api.ErrName
	case w[0] == "depth" && (n < 1 || n > 64):
		return api.ErrNumber
	case w[0] == "depth":
		k.depth = n
	case w[0] == "flow":
		k.pairs = append(k.pairs, [2]int{k.levels[w[1]], k.levels[w[2]]})
	default:
		of[w[1]] = len(of)
	}
	return api.OK
}

// judge tells what Parse is to answer of a text of short lines.
func judge(s string) (int, api.Errno) {
	k := &said{levels: map[string]int{}, ins: map[string]int{}, outs: map[string]int{}}
	at := 0
	for _, line := range strings.SplitAfter(s, "\n") {
		if e := k.refuse(line); e != api.OK {
			return at + len(line) - len(strings.TrimLeft(line, " \t")), e
		}
		at += len(line)
	}
	if len(k.levels) == 0 || k.depth == 0 {
		return len(s), api.ErrNone
	}
	if _, e := lattice.Build(len(k.levels), k.pairs); e != api.OK {
		return len(s), api.ErrOrder
	}
	return 0, api.OK
}

// someLines are lines that were put together by chance, mostly right ones.
func someLines(r *rand.Rand) string {
	pick := func(l ...string) string { return l[r.Intn(len(l))] }
	s := ""
	if r.Intn(4) > 0 {
		s = "level a\nlevel b\nflow a b\n"
	}
	for range 1 + r.Intn(7) {
		s += pick("", "", " ", "\t")
		switch name := pick("a", "b", "c", "d", "a", "b", "c", "d", "1", "add"); r.Intn(12) {
		case 0, 1:
			s += "level " + name
		case 2, 3:
			s += "flow " + pick("a", "b", "c") + " " + pick("a", "b", "c", "d")
		case 4, 5:
			s += "input\t" + name + "  " + pick("a", "b", "c")
		case 6, 7:
			s += "output " + name + " " + pick("a", "b", "c")
		case 8, 9, 10:
			s += "depth " + pick("1", "8", "64", "0", "65", "x")
		default:
			s += pick("#", "# level a", "bogus", "flow a", "input a", "level a b", "depth", "output a b c", " ")
		}
		s += pick("", "", " ", "\t ") + "\n"
	}
	return s
}

func TestParseOfSomeLines(t *testing.T) {
	r := rand.New(rand.NewSource(3))
	told := map[api.Errno]int{}
	for range 100000 {
		s := someLines(r)
		at, want := judge(s)
		told[want]++
		p, place, e := policy.Parse(s)
		if e != want || place != at {
			t.Fatalf("P6.1: Parse(%q) = %d at %d, want %d at %d", s, e, place, want, at)
		}
		if policy.Right(p) != (e == api.OK) {
			t.Fatalf("P6.2: Right of what Parse(%q) told is %v", s, e != api.OK)
		}
		if e == api.OK {
			checkBack(t, p)
		}
	}
	for _, e := range []api.Errno{api.OK, api.ErrLine, api.ErrTwice, api.ErrName, api.ErrNumber, api.ErrNone, api.ErrOrder} {
		if told[e] < 300 {
			t.Errorf("the test's own texts are told %d but %d times", e, told[e])
		}
	}
}

// text is the text that Print is to tell of a policy that may be.
func text(p api.Policy) string {
	s := ""
	for _, name := range p.Levels {
		s += "level " + name + "\n"
	}
	for _, c := range lattice.Covers(p.Up) {
		s += "flow " + p.Levels[c[0]] + " " + p.Levels[c[1]] + "\n"
	}
	for _, c := range p.Ins {
		s += "input " + c.Name + " " + p.Levels[c.Level] + "\n"
	}
	for _, c := range p.Outs {
		s += "output " + c.Name + " " + p.Levels[c.Level] + "\n"
	}
	return s + "depth " + strconv.Itoa(p.Depth) + "\n"
}

// checkBack holds the text of a policy that may be against the chapter, and reads it again.
func checkBack(t *testing.T, p api.Policy) {
	t.Helper()
	if !policy.Right(p) {
		t.Fatalf("P6.2: Right(%v) is false", p)
	}
	s, e := policy.Print(p)
	if e != api.OK || s != text(p) {
		t.Fatalf("P6.2: Print(%v) = %q, %d, want %q", p, s, e, text(p))
	}
	if back, at, e := policy.Parse(s); e != api.OK || at != 0 || !same(back, p) {
		t.Fatalf("P6.2: Parse(%q) = %v, %d, %d, want %v", s, back, at, e, p)
	}
}

func TestPrint(t *testing.T) {
	for s, want := range map[string]string{
		two:                                  two + "\n",
		"depth 8 \n#x\n output net l\tlevel": "",
		"level level\ndepth 07":              "",
		"depth 1\nlevel a":                   "level a\ndepth 1\n",
		"level a\nlevel b\nlevel c\nflow b a\nflow c b\nflow c a\nflow a a\ndepth 3":                                            "level a\nlevel b\nlevel c\nflow b a\nflow c b\ndepth 3\n",
		"level d\nlevel b\nlevel c\nlevel a\nflow a b\nflow b d\nflow a c\nflow c d\nflow a d\noutput o c\ninput i d\ndepth 10": "level d\nlevel b\nlevel c\nlevel a\nflow b d\nflow c d\nflow a b\nflow a c\ninput i d\noutput o c\ndepth 10\n",
	} {
		p, _, _ := policy.Parse(s)
		out, e := policy.Print(p)
		if out != want || (e == api.OK) != (want != "") || e != api.OK && e != api.ErrArg {
			t.Errorf("P6.2: Print of Parse(%q) = %q, %d, want %q", s, out, e, want)
		}
	}
	p, _, _ := policy.Parse(greatest())
	checkBack(t, p)
}

// longest is a policy of the greatest lattice there is at hand, with the longest names: its text is the longest.
func longest() api.Policy {
	names := func(n int) []string {
		var l []string
		for i := range n {
			l = append(l, strings.Repeat("ω", 22)+string([]rune{rune('α' + i/8), rune('α' + i%8)}))
		}
		return l
	}
	p := api.Policy{Levels: names(64), Depth: 64}
	for a := range 64 {
		up := uint64(1)<<a | 1<<63
		for b := range 31 {
			// Of a projective plane the points, 31, stand below the lines that they are on, six each.
			if a < 31 && slices.Contains([]int{1, 5, 11, 24, 25, 27}, (b-a+31)%31) {
				up |= 1 << (31 + b)
			}
		}
		if a == 62 {
			up = math.MaxUint64
		}
		p.Up = append(p.Up, up)
	}
	for i, name := range names(32) {
		p.Ins = append(p.Ins, api.Channel{Name: name, Level: 63 - i})
		p.Outs = append(p.Outs, api.Channel{Name: name, Level: i})
	}
	return p
}

func TestPrintOfTheLongest(t *testing.T) {
	p := longest()
	checkBack(t, p)
	if s, _ := policy.Print(p); len(s) < 30000 {
		t.Errorf("the test's own text has but %d bytes", len(s))
	}
}

// spoils are ways to make of a policy that may be one that may not.
func spoils() map[string]func(p *api.Policy) {
	long := strings.Repeat("a", 25)
	many := func(n int) []api.Channel {
		var l []api.Channel
		for i := range n {
			l = append(l, api.Channel{Name: "c" + strconv.Itoa(i)})
		}
		return l
	}
	all := map[string]func(p *api.Policy){
		"no level":             func(p *api.Policy) { *p = api.Policy{Depth: 1} },
		"nothing":              func(p *api.Policy) { *p = api.Policy{} },
		"a level twice":        func(p *api.Policy) { p.Levels[1] = "low" },
		"less names":           func(p *api.Policy) { p.Levels = p.Levels[:1] },
		"more names":           func(p *api.Policy) { p.Levels = append(p.Levels, "more") },
		"no masks":             func(p *api.Policy) { p.Up = nil },
		"less masks":           func(p *api.Policy) { p.Up = []uint64{1} },
		"more masks":           func(p *api.Policy) { p.Up = []uint64{7, 6, 4} },
		"a mask too great":     func(p *api.Policy) { p.Up[0] = 7 },
		"a level not in its":   func(p *api.Policy) { p.Up[1] = 0 },
		"each above the other": func(p *api.Policy) { p.Up[1] = 3 },
		"no join":              func(p *api.Policy) { p.Up[0] = 1 },
		"an input twice":       func(p *api.Policy) { p.Ins = append(p.Ins, api.Channel{Name: "key"}) },
		"an output twice": func(p *api.Policy) {
			p.Outs = append(p.Outs, api.Channel{Name: "x"}, api.Channel{Name: "net", Level: 1})
		},
		"33 inputs":  func(p *api.Policy) { p.Ins = many(33) },
		"33 outputs": func(p *api.Policy) { p.Outs = many(33) },
	}
	for _, s := range []string{"", "1", "add", "return", "input", "é", "a b", "a\n", "#", "\xff", long} {
		all["level "+s] = func(p *api.Policy) { p.Levels[1] = s }
		all["input "+s] = func(p *api.Policy) { p.Ins[0].Name = s }
		all["output "+s] = func(p *api.Policy) { p.Outs[0].Name = s }
	}
	for _, n := range []int{-1, 2, 64, 1 << 32, math.MaxInt, math.MinInt} {
		s := strconv.Itoa(n)
		all["input at "+s] = func(p *api.Policy) { p.Ins[0].Level = n }
		all["output at "+s] = func(p *api.Policy) { p.Outs[0].Level = n }
	}
	for _, n := range []int{0, -1, 65, 1<<32 + 8, math.MaxInt, math.MinInt} {
		all["depth "+strconv.Itoa(n)] = func(p *api.Policy) { p.Depth = n }
	}
	return all
}

func TestPoliciesThatMayNotBe(t *testing.T) {
	for name, spoil := range spoils() {
		p := made()
		checkBack(t, p)
		spoil(&p)
		if policy.Right(p) {
			t.Errorf("P6.2: Right of one with %q", name)
		}
		if s, e := policy.Print(p); s != "" || e != api.ErrArg {
			t.Errorf("P6.2: Print of one with %q: %q, %d", name, s, e)
		}
	}
	row := func(n int) api.Policy {
		p := api.Policy{Depth: 1}
		for i := range n {
			p.Levels = append(p.Levels, "l"+strconv.Itoa(i))
			p.Up = append(p.Up, math.MaxUint64<<i)
		}
		return p
	}
	if policy.Right(row(65)) || !policy.Right(row(64)) {
		t.Error("P6.2: of 64 and 65 levels")
	}
}

func TestPoliciesAtTheirEdges(t *testing.T) {
	for name, change := range map[string]func(p *api.Policy){
		"no channel":   func(p *api.Policy) { p.Ins, p.Outs = nil, []api.Channel{} },
		"the depth 1":  func(p *api.Policy) { p.Depth = 1 },
		"the depth 64": func(p *api.Policy) { p.Depth = 64 },
		"one name":     func(p *api.Policy) { p.Levels[0], p.Ins[0].Name, p.Outs[0].Name = "a", "a", "a" },
		"32 of each": func(p *api.Policy) {
			p.Ins, p.Outs = nil, nil
			for i := range 32 {
				p.Ins = append(p.Ins, api.Channel{Name: "c" + strconv.Itoa(i), Level: i % 2})
				p.Outs = append(p.Outs, api.Channel{Name: "c" + strconv.Itoa(i), Level: i / 16})
			}
		},
	} {
		p := made()
		change(&p)
		if !policy.Right(p) {
			t.Errorf("P6.2: Right of one with %s is false", name)
		}
		checkBack(t, p)
	}
}

func TestFind(t *testing.T) {
	p := api.Policy{
		Levels: []string{"low", "high", "low", "é", ""},
		Ins:    []api.Channel{{Name: "key", Level: 1}, {Name: "net", Level: 9}, {Name: "key"}},
		Outs:   []api.Channel{{Name: "vault"}, {Name: "net"}, {Name: "net"}, {Name: "add"}},
	}
	type answer struct {
		n  int
		ok bool
	}
	none := answer{}
	for name, want := range map[string][3]answer{
		"low":   {{0, true}, none, none},
		"high":  {{1, true}, none, none},
		"é":     {{3, true}, none, none},
		"":      {{4, true}, none, none},
		"key":   {none, {0, true}, none},
		"net":   {none, {1, true}, {1, true}},
		"vault": {none, none, {0, true}},
		"add":   {none, none, {3, true}},
		"Low":   {none, none, none},
		"lo":    {none, none, none},
		"none":  {none, none, none},
		"ke":    {none, none, none},
		"\xff":  {none, none, none},
	} {
		var got [3]answer
		got[0].n, got[0].ok = policy.Level(p, name)
		got[1].n, got[1].ok = policy.Input(p, name)
		got[2].n, got[2].ok = policy.Output(p, name)
		if got != want {
			t.Errorf("P6.3: of %q: %v, want %v", name, got, want)
		}
	}
	for _, name := range []string{"", "low", "key"} {
		a, ok := policy.Level(api.Policy{}, name)
		b, is := policy.Input(api.Policy{}, name)
		c, so := policy.Output(api.Policy{}, name)
		if ok || is || so || a != 0 || b != 0 || c != 0 {
			t.Errorf("P6.3: an empty policy has %q", name)
		}
	}
}

func TestFindInTheGreatest(t *testing.T) {
	p, _, _ := policy.Parse(greatest())
	for i := range 70 {
		name := strconv.Itoa(i)
		n, ok := policy.Level(p, "l"+name)
		in, is := policy.Input(p, "c"+name)
		out, so := policy.Output(p, "c"+name)
		if ok != (i < 64) || is != (i < 32) || so != (i < 32) || ok && n != i || is && in != i || so && out != i {
			t.Errorf("P6.3: of %d: %d, %v, %d, %v, %d, %v", i, n, ok, in, is, out, so)
		}
	}
}

func TestWhatIsHandedInAndOut(t *testing.T) {
	first, _, _ := policy.Parse(two)
	second, _, _ := policy.Parse(two)
	first.Levels[0], first.Up[0], first.Ins[0].Name, first.Outs[0].Level = "x", 99, "x", 1
	if !same(second, made()) {
		t.Errorf("R4: two answers share: %v", second)
	}
	room := make([]api.Channel, 3, 8)
	for i := range room {
		room[i] = api.Channel{Name: "c" + strconv.Itoa(i)}
	}
	p := made()
	p.Ins = room[:2]
	checkBack(t, p)
	if room[2].Name != "c2" || room[:4][3] != (api.Channel{}) || !slices.Equal(p.Levels, []string{"low", "high"}) || !slices.Equal(p.Up, []uint64{3, 2}) {
		t.Errorf("R4: what was handed in is %v, %v", p, room)
	}
}
