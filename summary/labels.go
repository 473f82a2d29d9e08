package summary

import (
	"math/bits"
	"slices"

	"interdict/api"
	"interdict/calls"
	"interdict/post"
	"interdict/sites"
	"interdict/solve"
)

// place is the bit of a mask that stands for the place from which a function is called; those ahead of it stand for its parameters.
const place = api.MaxParams

// spot is where an instruction stands: its function, its block, and where it is in it.
type spot struct{ fn, block, at int }

// work is code without a fault, and what is found out about it.
type work struct {
	policy api.Policy
	code   api.Code
	bottom int
	deep   []bool       // in which functions a call may be too deep
	risks  map[spot]int // by which value an instruction may trap
	to     [][]int      // which functions call which
	funcs  []function
	labels [][]api.Label // those of each function's variables
}

// function is one, and where control goes in it. Its variables are its values, then its blocks, then its result.
type function struct {
	api.Body
	to   [][]int // to which blocks each one leads
	held [][]int // in which forks' regions each one is
}

// block is the variable of a block.
func (f function) block(number int) int { return f.Vars + number }

// result is the variable of the result.
func (f function) result() int { return f.Vars + len(f.Blocks) }

// begin finds the labels of code for a policy, if it has no fault.
func begin(p api.Policy, c api.Code) (*work, api.Errno) {
	to, e := calls.To(p, c)
	if e != api.OK {
		return nil, e
	}
	w := &work{policy: p, code: c, bottom: least(p.Up), risks: map[spot]int{}, to: to}
	w.deep, _ = calls.Deep(p, c)
	all, _ := sites.All(p, c)
	for _, s := range all {
		w.risks[spot{s.Fn, s.Block, s.Place}] = s.Value
	}
	for _, b := range c.Funcs {
		f := function{Body: b}
		for _, code := range b.Blocks {
			f.to = append(f.to, ways(code))
		}
		f.held = post.Held(f.to)
		w.funcs = append(w.funcs, f)
		w.labels = append(w.labels, slices.Repeat([]api.Label{{Level: w.bottom}}, f.result()+1))
	}
	for _, group := range calls.Groups(to) {
		w.settle(group)
	}
	return w, api.OK
}

// least is the level of a lattice above which all are.
func least(up []uint64) int {
	return slices.IndexFunc(up, func(above uint64) bool { return bits.OnesCount64(above) == len(up) })
}

// ways tells to which blocks one leads, each once.
func ways(code []api.Op) []int {
	end := code[len(code)-1]
	switch {
	case end.Kind == api.KReturn:
		return nil
	case end.Kind == api.KBranch && end.Alt != end.Ref:
		return []int{end.Ref, end.Alt}
	}
	return []int{end.Ref}
}

// settle finds the labels of a group's functions, where those of what they call beside one another are known. Those that call a function whose result has grown are solved again.
func (w *work) settle(group []int) {
	line := slices.Clone(group)
	for len(line) > 0 {
		fn := line[0]
		line = line[1:]
		before := w.result(fn)
		w.labels[fn], _, _ = solve.Solve(w.policy.Up, w.system(w.funcs[fn]))
		if w.result(fn) == before {
			continue
		}
		for _, other := range group {
			if slices.Contains(w.to[other], fn) && !slices.Contains(line, other) {
				line = append(line, other)
			}
		}
	}
}

// result is the label of a function's result, as far as it is known.
func (w *work) result(fn int) api.Label { return w.labels[fn][w.funcs[fn].result()] }

// system is that of a function's variables, where the results of the functions that it calls are known.
func (w *work) system(f function) solve.System {
	n := f.result() + 1
	s := solve.System{Const: slices.Repeat([]api.Label{{Level: w.bottom}}, n), Needs: make([][]int, n)}
	for i := range f.Params {
		s.Const[i].Mask = 1 << i
	}
	demands := w.demands(f)
	for block, code := range f.Blocks {
		here := f.block(block)
		s.Const[here].Mask = 1 << place
		s.Needs[here] = f.asked(f.held[block])
		for _, x := range code {
			if demanded, defines := demands[x.Kind]; defines {
				level, needs := demanded(x)
				s.Const[x.Dst].Level = level
				s.Needs[x.Dst] = append(needs, here)
			}
			if x.Kind == api.KReturn {
				s.Needs[f.result()] = append(s.Needs[f.result()], x.Args[0], here)
			}
		}
	}
	return s
}

// demands finds, for each kind of instruction that defines a value, what its label is joined of beside that of its block: a level, and some variables, in a list of its own.
func (w *work) demands(f function) map[uint8]func(x api.Op) (level int, needs []int) {
	args := func(x api.Op) (int, []int) { return w.bottom, slices.Clone(x.Args) }
	return map[uint8]func(x api.Op) (int, []int){
		api.KConst:   args,
		api.KBin:     args,
		api.KWrap:    args,
		api.KLoad:    func(x api.Op) (int, []int) { return w.code.Arrays[x.Ref].Level, slices.Clone(x.Args) },
		api.KInput:   func(x api.Op) (int, []int) { return w.policy.Ins[x.Ref].Level, nil },
		api.KRelease: func(x api.Op) (int, []int) { return x.Ref, nil },
		api.KPhi: func(x api.Op) (int, []int) {
			needs := append(slices.Clone(x.Args), f.asked(x.From)...)
			for _, block := range x.From {
				needs = append(needs, f.block(block))
			}
			return w.bottom, needs
		},
		api.KCall: func(x api.Op) (int, []int) {
			// The place of the call is that of its block, which every value needs.
			result := w.result(x.Ref)
			var needs []int
			for i, arg := range x.Args {
				if has(result, i) {
					needs = append(needs, arg)
				}
			}
			return result.Level, needs
		},
	}
}

// has: is a bit in a label's mask?
func has(l api.Label, bit int) bool { return l.Mask>>bit&1 == 1 }

// asked tells the values on which those of some blocks branch that are forks.
func (f function) asked(blocks []int) []int {
	var l []int
	for _, i := range blocks {
		if len(f.to[i]) > 1 {
			code := f.Blocks[i]
			l = append(l, code[len(code)-1].Args[0])
		}
	}
	return l
}
