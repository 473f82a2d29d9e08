package audit_test

import (
	"math/rand"
	"slices"
	"strconv"
	"strings"
	"testing"

	"interdict/api"
	"interdict/audit"
	"interdict/interp"
	"interdict/lattice"
	"interdict/queue"
	"interdict/sinks"
	"interdict/summary"
	"interdict/sym"
)

// three is a chain, the numbers of whose levels are in another order.
const three = "level mid\nlevel high\nlevel low\nflow low mid\nflow mid high\ninput a low\ninput b mid\ninput c high\noutput x low\noutput y mid\noutput z high\ndepth 4"

// writer writes programs by chance in which much is called and released, some of it where a fork parts.
type writer struct {
	*rand.Rand
	p      api.Policy
	params []int // how many each function has
	main   int
	used   int // how many names are used
	text   strings.Builder
}

// writers write programs for several policies.
func writers(t *testing.T, seed int64) []*writer {
	t.Helper()
	var l []*writer
	for i, s := range []string{two, three, four} {
		l = append(l, &writer{Rand: rand.New(rand.NewSource(seed + int64(i))), p: setting(t, s)})
	}
	return l
}

// program writes a program of so many functions.
func (w *writer) program(funcs int) string {
	w.text.Reset()
	w.params, w.main, w.used = nil, w.Intn(funcs), 0
	for fn := range funcs {
		w.params = append(w.params, w.Intn(4))
		if fn == w.main {
			w.params[fn] = 0
		}
	}
	for fn, n := range w.params {
		var there []string
		for range n {
			there = append(there, w.name("p"))
		}
		w.write("fn " + w.function(fn) + "(" + strings.Join(there, ", ") + ") { " + w.name("b") + ":")
		if n == 0 || w.Intn(3) == 0 {
			there = append(there, w.instr(6, nil))
		}
		there = w.some(there)
		for range w.Intn(3) {
			// What is within is not there behind.
			within, behind := w.name("b"), w.name("b")
			w.write("branch " + there[w.Intn(len(there))] + " " + within + " " + behind + " " + within + ":")
			w.some(there)
			w.write("jump " + behind + " " + behind + ":")
			there = w.some(there)
		}
		w.write("return " + there[w.Intn(len(there))] + " }")
	}
	return w.text.String()
}

// write writes some words.
func (w *writer) write(s string) { w.text.WriteString(s + " ") }

// name is one that is not used yet.
func (w *writer) name(kind string) string {
	w.used++
	return kind + strconv.Itoa(w.used)
}

// function is a function's name.
func (w *writer) function(fn int) string {
	if fn == w.main {
		return "main"
	}
	return "f" + strconv.Itoa(fn)
}

// some writes some instructions, and tells which values are there behind them.
func (w *writer) some(there []string) []string {
	there = slices.Clone(there)
	for range w.Intn(3) {
		if name := w.instr(w.Intn(7), there); name != "" {
			there = append(there, name)
		}
	}
	return there
}

// instr writes an instruction of a kind, and tells the value that it defines.
func (w *writer) instr(kind int, there []string) string {
	any := func() string { return there[w.Intn(len(there))] }
	if kind == 0 {
		w.write("output " + w.p.Outs[w.Intn(len(w.p.Outs))].Name + " " + any())
		return ""
	}
	name := w.name("v")
	switch kind {
	case 1:
		w.write(name + " = const " + strconv.Itoa(w.Intn(3)))
	case 2:
		w.write(name + " = sub " + any() + " " + any())
	case 3:
		w.write(name + " = release " + any() + " " + w.p.Levels[w.Intn(len(w.p.Levels))])
	case 4, 5:
		fn := w.Intn(len(w.params))
		var args []string
		for range w.params[fn] {
			args = append(args, any())
		}
		w.write(name + " = call " + w.function(fn) + "(" + strings.Join(args, ", ") + ")")
	case 6:
		w.write(name + " = input " + w.p.Ins[w.Intn(len(w.p.Ins))].Name)
	}
	return name
}

// within tells which functions one reaches by its calls, and itself.
func within(c api.Code, fn int) []int {
	l := []int{fn}
	for i := 0; i < len(l); i++ {
		for _, code := range c.Funcs[l[i]].Blocks {
			for _, x := range code {
				if x.Kind == api.KCall && !slices.Contains(l, x.Ref) {
					l = append(l, x.Ref)
				}
			}
		}
	}
	return l
}

// read is what the contexts and the releases are to be, by the chapter's own words: each level is raised by each call that asks for more, again and again.
func read(p api.Policy, c api.Code) ([]audit.Context, []api.Release) {
	told, _ := summary.All(p, c)
	bottom, _ := lattice.Bottom(p.Up)
	contexts := make([]audit.Context, len(c.Funcs))
	counts := within(c, c.Main)
	slices.Sort(counts)
	for _, fn := range counts {
		contexts[fn] = audit.Context{Counts: true, Place: bottom}
		if n := c.Funcs[fn].Params; n > 0 {
			contexts[fn].Args = slices.Repeat([]int{bottom}, n)
		}
	}
	again := true
	raise := func(level *int, x audit.Context, l api.Label) {
		low, _ := sym.Low(p.Up, l, x.Args, x.Place)
		if !lattice.Leq(p.Up, low, *level) {
			*level, _ = lattice.Join(p.Up, *level, low)
			again = true
		}
	}
	for again {
		again = false
		for _, fn := range counts {
			for block, code := range c.Funcs[fn].Blocks {
				for _, x := range code {
					if x.Kind == api.KCall {
						for i, arg := range x.Args {
							raise(&contexts[x.Ref].Args[i], contexts[fn], told[fn].Values[arg])
						}
						raise(&contexts[x.Ref].Place, contexts[fn], told[fn].Blocks[block])
					}
				}
			}
		}
	}
	var releases []api.Release
	for _, fn := range counts {
		for _, code := range c.Funcs[fn].Blocks {
			for _, x := range code {
				if x.Kind == api.KRelease {
					from, _ := sym.Low(p.Up, told[fn].Values[x.Args[0]], contexts[fn].Args, contexts[fn].Place)
					releases = append(releases, api.Release{Fn: fn, At: x.At, From: from, To: x.Ref})
				}
			}
		}
	}
	return contexts, releases
}

// TestByChance holds contexts and releases of many programs against the chapter.
func TestByChance(t *testing.T) {
	not, low, high, places := 0, 0, 0, 0
	for _, w := range writers(t, 20) {
		for range 2500 {
			s := w.program(1 + w.Intn(6))
			c := code(t, w.p, s)
			contexts, releases := read(w.p, c)
			l, e := audit.Contexts(w.p, c)
			if e != api.OK || !slices.EqualFunc(l, contexts, func(x, y audit.Context) bool {
				return x.Counts == y.Counts && slices.Equal(x.Args, y.Args) && x.Place == y.Place
			}) {
				t.Fatalf("P22.1: Contexts of %q: %v, %d, want %v", s, l, e, contexts)
			}
			r, e := audit.Releases(w.p, c)
			if e != api.OK || !slices.Equal(r, releases) {
				t.Fatalf("P22.2: Releases of %q: %v, %d, want %v", s, r, e, releases)
			}
			bottom, _ := lattice.Bottom(w.p.Up)
			for _, x := range contexts {
				switch {
				case !x.Counts:
					not++
				case x.Place != bottom:
					places++
				}
			}
			for _, x := range releases {
				if lattice.Leq(w.p.Up, x.From, x.To) {
					low++
				} else {
					high++
				}
			}
		}
	}
	if not < 1000 || low < 1000 || high < 1000 || places < 1000 {
		t.Errorf("the test's own programs: %d functions that do not count, %d releases upwards and %d others, %d places above the bottom", not, low, high, places)
	}
}

// inputs makes enough numbers for most runs.
func (w *writer) inputs() [][]int64 {
	l := make([][]int64, len(w.p.Ins))
	for i := range l {
		for range 40 {
			l[i] = append(l[i], int64(w.Intn(3)))
		}
	}
	return l
}

// same: are some events the same, place by place?
func same(a, b []api.Event, places bool) bool {
	return slices.EqualFunc(a, b, func(x, y api.Event) bool {
		return x.Ref == y.Ref && x.Value == y.Value && (!places || x.Fn == y.Fn && x.At == y.At)
	})
}

// TestRuns: whatever runs release is told; and of what is accepted a level sees nothing that hangs on what is above it, but for what is released to it.
func TestRuns(t *testing.T) {
	released, ended, parted := 0, 0, 0
	for _, w := range writers(t, 30) {
		for range 2500 {
			s := w.program(1 + w.Intn(3))
			c := code(t, w.p, s)
			releases, _ := audit.Releases(w.p, c)
			accepted := sinks.Accepts(w.p, c)
			for level := range w.p.Levels {
				a, b := w.inputs(), w.inputs()
				b, _ = queue.Mixed(w.p, level, a, b)
				x, _ := interp.Run(w.p, c, a, 300)
				y, _ := interp.Run(w.p, c, b, 300)
				for _, e := range x.Events {
					if e.Kind != api.ERelease {
						continue
					}
					released++
					if !slices.ContainsFunc(releases, func(r api.Release) bool { return r.Fn == e.Fn && r.At == e.At && r.To == e.Ref }) {
						t.Fatalf("P22.3: %q releases %v, but what is told is %v", s, e, releases)
					}
				}
				if !accepted || !interp.Ended(x) || !interp.Ended(y) {
					continue
				}
				if !same(queue.Seen(w.p, level, api.ERelease, x.Events), queue.Seen(w.p, level, api.ERelease, y.Events), true) {
					parted++
					continue
				}
				ended++
				if x.Status != y.Status || !same(queue.Seen(w.p, level, api.EOutput, x.Events), queue.Seen(w.p, level, api.EOutput, y.Events), false) {
					t.Fatalf("P2: with %v, %v the level %d sees of %q %v and %v", a, b, level, s, x, y)
				}
			}
		}
	}
	if released < 1000 || ended < 1000 || parted < 50 {
		t.Errorf("the test's own runs: %d releases; %d pairs that were held against one another, %d that released other things", released, ended, parted)
	}
}
