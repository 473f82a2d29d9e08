package twin_test

import (
	"math/rand"
	"slices"
	"testing"

	"interdict/api"
	"interdict/dom"
	"interdict/interp"
	"interdict/queue"
	"interdict/sinks"
	"interdict/ssa"
	"interdict/twin"
)

// writer makes code by chance: control goes anywhere, values are used wherever they are there.
type writer struct {
	*rand.Rand
	p      api.Policy
	arrays []api.Cell
	params []int // how many each function has
	at     int   // the place of the next instruction
}

// writers make code for several policies.
func writers(t *testing.T, seed int64) []*writer {
	t.Helper()
	var l []*writer
	for i, s := range []string{two, three, four} {
		l = append(l, &writer{Rand: rand.New(rand.NewSource(seed + int64(i))), p: setting(t, s)})
	}
	return l
}

// code makes code that may be, with a fault or without.
func (w *writer) code() api.Code {
	w.arrays, w.params, w.at = nil, nil, 0
	for range w.Intn(3) {
		w.arrays = append(w.arrays, api.Cell{Size: 1 + w.Intn(3), Level: w.Intn(len(w.p.Levels))})
	}
	c := api.Code{Arrays: w.arrays}
	funcs := 1 + w.Intn(3)
	c.Main = w.Intn(funcs)
	for fn := range funcs {
		w.params = append(w.params, 1+w.Intn(2))
		if fn == c.Main {
			w.params[fn] = 0
		}
	}
	for fn := range funcs {
		c.Funcs = append(c.Funcs, w.body(w.params[fn]))
	}
	return c
}

// ways makes a graph of as many blocks as is good; a block without ways returns.
func (w *writer) ways() [][]int {
	n := []int{1, 2, 3, 4, 4, 5, 6, 7}[w.Intn(8)]
	to := make([][]int, n)
	for i := range n - 1 {
		// Most ways go on, so that most blocks are reached and lead to the last one.
		next := i + 1
		if w.Intn(5) == 0 {
			next = 1 + w.Intn(n-1)
		}
		to[i] = []int{next}
		if w.Intn(3) > 0 {
			to[i] = append(to[i], 1+w.Intn(n-1))
		}
	}
	return to
}

// body makes a function.
func (w *writer) body(params int) api.Body {
	to := w.ways()
	above := dom.Tree(to)
	b := api.Body{Params: params, Vars: params}
	kinds := make([][]uint8, len(to))
	own := make([][]int, len(to)) // the values that each block defines
	for i := range to {
		kinds[i] = w.kinds(i, params)
		for _, kind := range kinds[i] {
			if kind != api.KOutput && kind != api.KStore {
				own[i] = append(own[i], b.Vars)
				b.Vars++
			}
		}
	}
	// ahead is what is there at a block's beginning.
	ahead := func(block int) []int {
		var l []int
		for i := range params {
			l = append(l, i)
		}
		for _, other := range dom.Chain(above, block) {
			if other != block {
				l = append(l, own[other]...)
			}
		}
		return l
	}
	for i := range to {
		var l []api.Op
		there, next := ahead(i), own[i]
		for _, kind := range kinds[i] {
			x := w.op(kind, there)
			if kind == api.KPhi {
				x.From, x.Args = nil, nil
				for from, ways := range to {
					if slices.Contains(ways, i) {
						x.From = append(x.From, from)
						x.Args = append(x.Args, w.one(append(ahead(from), own[from]...)))
					}
				}
			}
			x.Dst = -1
			if kind != api.KOutput && kind != api.KStore {
				x.Dst, next = next[0], next[1:]
			}
			l = append(l, x)
			if x.Dst >= 0 {
				there = append(there, x.Dst)
			}
		}
		b.Blocks = append(b.Blocks, append(l, w.end(to[i], there)))
	}
	return b
}

// kinds are those of a block's instructions, but for its end: phis first, and something that needs no value at the beginning of a function.
func (w *writer) kinds(block, params int) []uint8 {
	var l []uint8
	if block == 0 {
		l = append(l, api.KInput)
	} else {
		for range w.Intn(3) {
			l = append(l, api.KPhi)
		}
	}
	for range w.Intn(4) {
		kind := []uint8{api.KConst, api.KBin, api.KBin, api.KLoad, api.KWrap, api.KStore, api.KCall, api.KCall, api.KInput, api.KOutput, api.KOutput, api.KOutput, api.KRelease}[w.Intn(13)]
		if len(w.arrays) == 0 && (kind == api.KLoad || kind == api.KWrap || kind == api.KStore) {
			kind = api.KOutput
		}
		l = append(l, kind)
	}
	return l
}

// one is one of some values.
func (w *writer) one(there []int) int {
	if len(there) == 0 {
		return 0
	}
	return there[w.Intn(len(there))]
}

// op makes an instruction of a kind.
func (w *writer) op(kind uint8, there []int) api.Op {
	x := api.Op{Kind: kind, At: w.at}
	w.at += 10
	args := func(n int) {
		for range n {
			x.Args = append(x.Args, w.one(there))
		}
	}
	switch kind {
	case api.KConst:
		x.Num = int64(w.Intn(3))
	case api.KBin:
		x.Op = []uint8{api.OpAdd, api.OpSub, api.OpDiv, api.OpMod, api.OpEq, api.OpLess, api.OpAnd, api.OpMul}[w.Intn(8)]
		args(2)
	case api.KLoad, api.KWrap:
		x.Ref = w.Intn(len(w.arrays))
		args(1)
	case api.KStore:
		x.Ref = w.Intn(len(w.arrays))
		args(2)
	case api.KCall:
		x.Ref = w.Intn(len(w.params))
		args(w.params[x.Ref])
	case api.KInput:
		x.Ref = w.Intn(len(w.p.Ins))
	case api.KOutput:
		x.Ref = w.Intn(len(w.p.Outs))
		args(1)
	case api.KRelease:
		x.Ref = w.Intn(len(w.p.Levels))
		args(1)
	}
	return x
}

// end makes the end of a block that leads to some.
func (w *writer) end(to, there []int) api.Op {
	x := api.Op{Dst: -1, At: w.at}
	w.at += 10
	switch len(to) {
	case 0:
		x.Kind, x.Args = api.KReturn, []int{w.one(there)}
	case 1:
		x.Kind, x.Ref = api.KJump, to[0]
	case 2:
		x.Kind, x.Ref, x.Alt, x.Args = api.KBranch, to[0], to[1], []int{w.one(there)}
	}
	return x
}

// mend takes out of code, one by one, what makes it flow where it must not, till it is accepted: so it stands just below what is refused.
func (w *writer) mend(c api.Code) {
	for {
		flows, _ := sinks.Flows(w.p, c)
		if len(flows) == 0 {
			return
		}
		at := flows[w.Intn(len(flows))].At
		for _, b := range c.Funcs {
			for i := range b.Blocks {
				for k, x := range b.Blocks[i] {
					if x.At != at {
						continue
					}
					if x.Dst < 0 {
						b.Blocks[i] = slices.Delete(b.Blocks[i], k, k+1)
					} else {
						b.Blocks[i][k] = api.Op{Kind: api.KConst, Dst: x.Dst, Num: int64(w.Intn(3)), At: x.At}
					}
					break
				}
			}
		}
	}
}

// inputs makes enough numbers for most runs.
func (w *writer) inputs() [][]int64 {
	l := make([][]int64, len(w.p.Ins))
	for i := range l {
		for range 30 {
			l[i] = append(l[i], int64(w.Intn(4)-1))
		}
	}
	return l
}

// same: are some events the same, place by place?
func same(a, b []api.Event, places bool) bool {
	if len(a) != len(b) {
		return false
	}
	for i, x := range a {
		y := b[i]
		if x.Ref != y.Ref || x.Value != y.Value || places && (x.Fn != y.Fn || x.At != y.At) {
			return false
		}
	}
	return true
}

// read is what a level can tell of two runs, by the chapter's words.
func read(p api.Policy, level int, x, y interp.Result) twin.Twin {
	seen := func(kind uint8, r interp.Result) []api.Event { return queue.Seen(p, level, kind, r.Events) }
	ends := func(r interp.Result) bool { return r.Status != api.ErrFuel && r.Status != api.ErrDry }
	return twin.Twin{
		Ended:    ends(x) && ends(y),
		Outputs:  same(seen(api.EOutput, x), seen(api.EOutput, y), false),
		Releases: same(seen(api.ERelease, x), seen(api.ERelease, y), true),
		Status:   x.Status == y.Status,
	}
}

// tally counts what pairs of runs were like.
type tally struct{ ended, parted, differ, leaks, trapped, safe int }

// pair holds two runs against one another at each level, and tells whether one learns what it must not.
func (w *writer) pair(t *testing.T, c api.Code, n *tally) (leaks bool) {
	t.Helper()
	for level := range w.p.Levels {
		a, b := w.inputs(), w.inputs()
		b, _ = queue.Mixed(w.p, level, a, b)
		x, _ := interp.Run(w.p, c, a, 400)
		y, _ := interp.Run(w.p, c, b, 400)
		got, e := twin.Tell(w.p, c, level, a, b, 400)
		if want := read(w.p, level, x, y); e != api.OK || got != want {
			t.Fatalf("P24.1: Tell of %v, at %d, with %v and %v = %v, %d, want %v", c, level, a, b, got, e, want)
		}
		switch {
		case !got.Ended:
		case !got.Releases:
			n.parted++
		default:
			n.ended++
			if !same(x.Events, y.Events, true) {
				n.differ++
			}
			if x.Status != api.OK {
				n.trapped++
			}
			leaks = leaks || !got.Outputs || !got.Status
		}
	}
	return leaks
}

// TestTheorem: of code that is accepted no level learns what is above it, but for what is released to it; of code that is not, many do.
func TestTheorem(t *testing.T) {
	var accepted, refused tally
	for _, w := range writers(t, 40) {
		for made := 0; made < 2500; {
			c := w.code()
			if !ssa.Right(w.p, c) {
				continue
			}
			made++
			if ok, _ := twin.Safe(w.p, c); !ok && w.pair(t, c, &refused) {
				refused.leaks++
			}
			w.mend(c)
			ok, none := twin.Safe(w.p, c)
			if !ok || none == releases(c, c.Main, map[int]struct{}{}) {
				t.Fatalf("P24.2: Safe of %v = %v, %v", c, ok, none)
			}
			before := accepted
			if w.pair(t, c, &accepted) {
				t.Fatalf("P24.3: a level learns too much of %v", c)
			}
			if none && accepted.parted > before.parted {
				t.Fatalf("P24.2: %v releases something", c)
			}
			if none {
				accepted.safe++
			}
		}
	}
	t.Logf("accepted %+v, refused %+v", accepted, refused)
	if accepted.differ < 1000 || accepted.parted < 100 || accepted.trapped < 100 || accepted.safe < 500 || refused.leaks < 500 {
		t.Errorf("the test's own runs: accepted %+v, refused %+v", accepted, refused)
	}
}

// releases: is there a release in a function or in one that it reaches?
func releases(c api.Code, fn int, gone map[int]struct{}) bool {
	if _, is := gone[fn]; is {
		return false
	}
	gone[fn] = struct{}{}
	is := false
	for _, l := range c.Funcs[fn].Blocks {
		for _, x := range l {
			is = is || x.Kind == api.KRelease || x.Kind == api.KCall && releases(c, x.Ref, gone)
		}
	}
	return is
}
