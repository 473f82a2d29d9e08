package sinks

import (
	"slices"

	"interdict/api"
	"interdict/calls"
	"interdict/lattice"
	"interdict/post"
	"interdict/sites"
)

// Typing gives a function levels.
type Typing struct {
	Values, Blocks []int
	Result, Place  int
}

// spot is where an instruction stands: its function, its block, and where it is in it.
type spot struct{ fn, block, at int }

// typed is code without a fault, with levels that are given.
type typed struct {
	policy api.Policy
	code   api.Code
	given  []Typing
	bottom int
	deep   []bool       // in which functions a call may be too deep
	risks  map[spot]int // by which value an instruction may trap
}

// function is one of these.
type function struct {
	api.Body
	number int
	given  Typing
	held   [][]int // in which forks' regions each block is
}

// Holds: does a typing hold?
func Holds(p api.Policy, c api.Code, t []Typing) (bool, api.Errno) {
	deep, e := calls.Deep(p, c)
	if e != api.OK || !fits(p, c, t) {
		return false, api.ErrArg
	}
	w := &typed{policy: p, code: c, given: t, deep: deep, risks: map[spot]int{}}
	w.bottom, _ = lattice.Bottom(p.Up)
	all, _ := sites.All(p, c)
	for _, s := range all {
		w.risks[spot{s.Fn, s.Block, s.Place}] = s.Value
	}
	for fn, b := range c.Funcs {
		if !w.holds(function{Body: b, number: fn, given: t[fn], held: post.Held(ways(b))}) {
			return false, api.OK
		}
	}
	return true, api.OK
}

// fits: does a typing give levels to all that it should, and to nothing else?
func fits(p api.Policy, c api.Code, t []Typing) bool {
	if len(t) != len(c.Funcs) {
		return false
	}
	for fn, b := range c.Funcs {
		x := t[fn]
		if len(x.Values) != b.Vars || len(x.Blocks) != len(b.Blocks) {
			return false
		}
		if !are(p, x.Values...) || !are(p, x.Blocks...) || !are(p, x.Result, x.Place) {
			return false
		}
	}
	return true
}

// ways tells to which blocks those of a function lead, each once.
func ways(b api.Body) [][]int {
	to := make([][]int, len(b.Blocks))
	for i, code := range b.Blocks {
		end := code[len(code)-1]
		if end.Kind != api.KReturn {
			to[i] = append(to[i], end.Ref)
		}
		if isFork(end) {
			to[i] = append(to[i], end.Alt)
		}
	}
	return to
}

// isFork: is a block that has such an end a fork?
func isFork(end api.Op) bool { return end.Kind == api.KBranch && end.Alt != end.Ref }

// asked tells the levels of the values on which those of some blocks branch that are forks.
func (f function) asked(blocks []int) []int {
	var l []int
	for _, i := range blocks {
		code := f.Blocks[i]
		if end := code[len(code)-1]; isFork(end) {
			l = append(l, f.given.Values[end.Args[0]])
		}
	}
	return l
}

// under: is each of some levels at or below a bound?
func (w *typed) under(bound int, levels ...int) bool { return under(w.policy.Up, bound, levels...) }

// holds: are a function's levels as they must be?
func (w *typed) holds(f function) bool {
	for block, code := range f.Blocks {
		here := f.given.Blocks[block]
		if !w.under(here, f.given.Place) || !w.under(here, f.asked(f.held[block])...) {
			return false
		}
		for at, x := range code {
			value, risky := w.risks[spot{f.number, block, at}]
			if risky && !w.under(w.bottom, f.given.Values[value], here) {
				return false
			}
			args := picked(f.given.Values, x.Args)
			if !w.defined(f, x, here, args) || !w.bounded(f, x, here, args) {
				return false
			}
		}
	}
	return true
}

// picked tells the levels at some places of a list.
func picked(levels, at []int) []int {
	var l []int
	for _, i := range at {
		l = append(l, levels[i])
	}
	return l
}

// defined: is the value that an instruction defines, if it does, at or above all that comes in to it?
func (w *typed) defined(f function, x api.Op, here int, args []int) bool {
	if x.Dst < 0 {
		return true
	}
	all := []int{here}
	switch x.Kind {
	case api.KBin, api.KWrap:
		all = append(all, args...)
	case api.KLoad:
		all = append(all, args[0], w.code.Arrays[x.Ref].Level)
	case api.KPhi:
		all = slices.Concat(all, args, picked(f.given.Blocks, x.From), f.asked(x.From))
	case api.KInput:
		all = append(all, w.policy.Ins[x.Ref].Level)
	case api.KRelease:
		all = append(all, x.Ref)
	case api.KCall:
		all = append(all, w.given[x.Ref].Result)
	}
	return w.under(f.given.Values[x.Dst], all...)
}

// bounded: is all that goes out of an instruction at or below that to which it goes?
func (w *typed) bounded(f function, x api.Op, here int, args []int) bool {
	switch x.Kind {
	case api.KOutput:
		return w.under(w.policy.Outs[x.Ref].Level, args[0], here)
	case api.KInput:
		return w.under(w.policy.Ins[x.Ref].Level, here)
	case api.KStore:
		return w.under(w.code.Arrays[x.Ref].Level, args[0], args[1], here)
	case api.KRelease:
		return w.under(x.Ref, here)
	case api.KReturn:
		return w.under(f.given.Result, args[0], here)
	case api.KCall:
		for i, level := range args {
			if !w.under(w.given[x.Ref].Values[i], level) {
				return false
			}
		}
		return w.under(w.given[x.Ref].Place, here) && (!w.deep[f.number] || w.under(w.bottom, here))
	}
	return true
}
