package summary_test

import (
	"slices"

	"interdict/api"
	"interdict/calls"
	"interdict/sites"
	"interdict/summary"
)

// reading is the chapter's own words: each label is joined of all that it is to be, again and again, of all functions at one time.
type reading struct {
	p      api.Policy
	c      api.Code
	forks  [][][]int // in which forks' regions each block of each function is
	all    []summary.Summary
	sinks  []summary.Sink
	bottom int
	top    int
	over   [][]int // the least level above each two
	under  [][]int // the greatest one below each two
}

// read tells what is to be said of code without a fault.
func read(p api.Policy, c api.Code) *reading {
	r := &reading{p: p, c: c}
	for a := range p.Up {
		var over, under []int
		for b := range p.Up {
			over, under = append(over, r.least(a, b)), append(under, r.greatest(a, b))
		}
		r.over, r.under = append(r.over, over), append(r.under, under)
	}
	for level := range p.Up {
		r.bottom, r.top = r.under[r.bottom][level], r.over[r.top][level]
	}
	for _, b := range c.Funcs {
		s := summary.Summary{Result: api.Label{Level: r.bottom}}
		s.Values = slices.Repeat([]api.Label{s.Result}, b.Vars)
		s.Blocks = slices.Repeat([]api.Label{s.Result}, len(b.Blocks))
		for i := range s.Caps {
			s.Caps[i] = r.top
		}
		r.all = append(r.all, s)
		r.forks = append(r.forks, held(b))
	}
	for again := true; again; {
		again = false
		for fn := range c.Funcs {
			again = r.grow(fn) || again
		}
	}
	for again := true; again; {
		again = false
		r.sinks = r.listed()
		for _, s := range r.sinks {
			for bit := range 7 {
				low := r.under[r.all[s.Fn].Caps[bit]][s.Bound]
				if s.Label.Mask>>bit&1 == 1 && low != r.all[s.Fn].Caps[bit] {
					r.all[s.Fn].Caps[bit], again = low, true
				}
			}
		}
	}
	return r
}

// leq: is the level a at or below b?
func (r *reading) leq(a, b int) bool { return r.p.Up[a]>>b&1 == 1 }

// least is the level above two that is below all that are above both.
func (r *reading) least(a, b int) int {
	for c := range r.p.Up {
		least := r.leq(a, c) && r.leq(b, c)
		for d := range r.p.Up {
			least = least && (!r.leq(a, d) || !r.leq(b, d) || r.leq(c, d))
		}
		if least {
			return c
		}
	}
	return -1
}

// greatest is the level below two that is above all that are below both.
func (r *reading) greatest(a, b int) int {
	for c := range r.p.Up {
		greatest := r.leq(c, a) && r.leq(c, b)
		for d := range r.p.Up {
			greatest = greatest && (!r.leq(d, a) || !r.leq(d, b) || r.leq(d, c))
		}
		if greatest {
			return c
		}
	}
	return -1
}

// join is that of labels.
func (r *reading) join(l ...api.Label) api.Label {
	all := api.Label{Level: r.bottom}
	for _, x := range l {
		all.Level, all.Mask = r.over[all.Level][x.Level], all.Mask|x.Mask
	}
	return all
}

// plain is the label of a level.
func plain(level int) api.Label { return api.Label{Level: level} }

// put is what a label becomes where a function is called.
func (r *reading) put(l api.Label, args []api.Label, pc api.Label) api.Label {
	all := plain(l.Level)
	for i, a := range args {
		if l.Mask>>i&1 == 1 {
			all = r.join(all, a)
		}
	}
	if l.Mask>>6&1 == 1 {
		all = r.join(all, pc)
	}
	return all
}

// grow joins a function's labels of all that they are to be: has one grown?
func (r *reading) grow(fn int) bool {
	b, s, grown := r.c.Funcs[fn], &r.all[fn], false
	set := func(l *api.Label, parts ...api.Label) {
		whole := r.join(parts...)
		grown = grown || whole != *l
		*l = whole
	}
	asked := func(block int) api.Label { return s.Values[end(b, block).Args[0]] }
	for block := range b.Blocks {
		parts := []api.Label{{Level: r.bottom, Mask: 1 << 6}}
		for _, fork := range r.forks[fn][block] {
			parts = append(parts, asked(fork))
		}
		set(&s.Blocks[block], parts...)
	}
	for i := range b.Params {
		set(&s.Values[i], api.Label{Level: r.bottom, Mask: 1 << i})
	}
	var result []api.Label
	for block, code := range b.Blocks {
		here := s.Blocks[block]
		for _, x := range code {
			var args []api.Label
			for _, v := range x.Args {
				args = append(args, s.Values[v])
			}
			parts := []api.Label{here}
			switch x.Kind {
			case api.KConst:
			case api.KBin, api.KWrap:
				parts = append(parts, args...)
			case api.KLoad:
				parts = append(parts, args[0], plain(r.c.Arrays[x.Ref].Level))
			case api.KInput:
				parts = append(parts, plain(r.p.Ins[x.Ref].Level))
			case api.KRelease:
				parts = append(parts, plain(x.Ref))
			case api.KPhi:
				parts = append(parts, args...)
				for _, from := range x.From {
					parts = append(parts, s.Blocks[from])
					if len(leads(b, from)) == 2 {
						parts = append(parts, asked(from))
					}
				}
			case api.KCall:
				parts = append(parts, r.put(r.all[x.Ref].Result, args, here))
			case api.KReturn:
				result = append(result, args[0], here)
				continue
			default:
				continue
			}
			set(&s.Values[x.Dst], parts...)
		}
	}
	set(&s.Result, result...)
	return grown
}

// listed are all sinks, by the caps as they are.
func (r *reading) listed() []summary.Sink {
	deep, _ := calls.Deep(r.p, r.c)
	risks, _ := sites.All(r.p, r.c)
	var l []summary.Sink
	for fn, b := range r.c.Funcs {
		values := r.all[fn].Values
		for block, code := range b.Blocks {
			here := r.all[fn].Blocks[block]
			for place, x := range code {
				sink := func(kind uint8, arg, bound int, parts ...api.Label) {
					l = append(l, summary.Sink{Kind: kind, Fn: fn, At: x.At, Arg: arg, Label: r.join(parts...), Bound: bound})
				}
				if x.Kind == api.KOutput {
					sink(api.SOutput, 0, r.p.Outs[x.Ref].Level, values[x.Args[0]], here)
				}
				if x.Kind == api.KInput {
					sink(api.SInput, 0, r.p.Ins[x.Ref].Level, here)
				}
				if x.Kind == api.KStore {
					sink(api.SStore, 0, r.c.Arrays[x.Ref].Level, values[x.Args[0]], values[x.Args[1]], here)
				}
				for _, s := range risks {
					if s.Fn == fn && s.Block == block && s.Place == place {
						sink(api.STrap, 0, r.bottom, values[s.Value], here)
					}
				}
				if x.Kind == api.KRelease {
					sink(api.SRelease, 0, x.Ref, here)
				}
				if x.Kind != api.KCall {
					continue
				}
				caps := r.all[x.Ref].Caps
				for i, v := range x.Args {
					sink(api.SArg, i, caps[i], values[v])
				}
				sink(api.SCall, 0, caps[6], here)
				if deep[fn] {
					sink(api.SDepth, 0, r.bottom, here)
				}
			}
		}
	}
	return l
}

// end is a block's last instruction.
func end(b api.Body, block int) api.Op {
	code := b.Blocks[block]
	return code[len(code)-1]
}

// leads tells to which blocks one leads.
func leads(b api.Body, block int) []int {
	x := end(b, block)
	switch {
	case x.Kind == api.KReturn:
		return nil
	case x.Kind == api.KBranch && x.Ref != x.Alt:
		return []int{x.Ref, x.Alt}
	}
	return []int{x.Ref}
}

// from tells which blocks are reached from some, by ways that do not go through one block (none: -1).
func from(b api.Body, blocks []int, without int) []int {
	var been []int
	var visit func(i int)
	visit = func(i int) {
		if i == without || slices.Contains(been, i) {
			return
		}
		been = append(been, i)
		for _, j := range leads(b, i) {
			visit(j)
		}
	}
	for _, i := range blocks {
		visit(i)
	}
	return been
}

// behind: does each way from the block i to a return go through the block a?
func behind(b api.Body, a, i int) bool {
	return !slices.ContainsFunc(from(b, []int{i}, a), func(j int) bool { return len(leads(b, j)) == 0 })
}

// meeting is where a block's ways come together again: the number of blocks, if they do so at the end alone.
func meeting(b api.Body, block int) int {
	n := len(b.Blocks)
	for m := range n {
		if m == block || !behind(b, m, block) {
			continue
		}
		nearest := true
		for other := range n {
			nearest = nearest && (other == block || !behind(b, other, block) || behind(b, other, m))
		}
		if nearest {
			return m
		}
	}
	return n
}

// held tells of each block in which forks' regions it is.
func held(b api.Body) [][]int {
	l := make([][]int, len(b.Blocks))
	for fork := range b.Blocks {
		if to := leads(b, fork); len(to) == 2 {
			for _, i := range from(b, to, meeting(b, fork)) {
				l[i] = append(l[i], fork)
			}
		}
	}
	return l
}
