package summary

import (
	"iter"

	"interdict/api"
	"interdict/solve"
	"interdict/sym"
)

// claim is a sink, but for its bound: that is a limit, which is not known as long as it may be another function's cap.
type claim struct {
	Sink
	limit int
}

// limit is the number of a function's cap among the limits: these are all levels, then the caps of one function behind the other.
func (w *work) limit(fn, bit int) int {
	return len(w.policy.Up) + fn*(place+1) + bit
}

// claims tells all functions' sinks.
func (w *work) claims() []claim {
	var l []claim
	for fn := range w.funcs {
		for c := range w.claimed(fn) {
			l = append(l, c)
		}
	}
	return l
}

// claimed goes over a function's sinks, by its instructions.
func (w *work) claimed(fn int) iter.Seq[claim] {
	return func(yield func(claim) bool) {
		for block, code := range w.funcs[fn].Blocks {
			for at, x := range code {
				for _, c := range w.at(spot{fn, block, at}, x) {
					if !yield(c) {
						return
					}
				}
			}
		}
	}
}

// at tells the sinks at an instruction.
func (w *work) at(s spot, x api.Op) []claim {
	here := w.funcs[s.fn].block(s.block)
	var l []claim
	add := func(kind uint8, limit int, variables ...int) {
		label := w.joined(s.fn, variables)
		l = append(l, claim{Sink{Kind: kind, Fn: s.fn, At: x.At, Label: label}, limit})
	}
	switch x.Kind {
	case api.KOutput:
		add(api.SOutput, w.policy.Outs[x.Ref].Level, x.Args[0], here)
	case api.KInput:
		add(api.SInput, w.policy.Ins[x.Ref].Level, here)
	case api.KStore:
		add(api.SStore, w.code.Arrays[x.Ref].Level, x.Args[0], x.Args[1], here)
	case api.KRelease:
		add(api.SRelease, x.Ref, here)
	case api.KCall:
		for i, arg := range x.Args {
			add(api.SArg, w.limit(x.Ref, i), arg)
			l[i].Arg = i
		}
		add(api.SCall, w.limit(x.Ref, place), here)
		if w.deep[s.fn] {
			add(api.SDepth, w.bottom, here)
		}
	}
	if value, is := w.risks[s]; is {
		add(api.STrap, w.bottom, value, here)
	}
	return l
}

// joined is the join of the labels of some of a function's variables.
func (w *work) joined(fn int, variables []int) api.Label {
	l := w.labels[fn]
	label := l[variables[0]]
	for _, i := range variables[1:] {
		label, _ = sym.Join(w.policy.Up, label, l[i])
	}
	return label
}

// limits finds the greatest caps. In the lattice turned round these are the least solution of a system, in which a cap needs all that bounds it.
func (w *work) limits(claims []claim) []api.Label {
	down := turned(w.policy.Up)
	top := least(down)
	n := w.limit(len(w.funcs), 0)
	s := solve.System{Const: make([]api.Label, n), Needs: make([][]int, n)}
	for i := range s.Const {
		s.Const[i].Level = top
		if i < len(down) {
			s.Const[i].Level = i
		}
	}
	for _, c := range claims {
		for bit := range place + 1 {
			if has(c.Label, bit) {
				i := w.limit(c.Fn, bit)
				s.Needs[i] = append(s.Needs[i], c.limit)
			}
		}
	}
	l, _, _ := solve.Solve(down, s)
	return l
}

// turned is a lattice turned round: of each level the set of those that stand at or below it.
func turned(up []uint64) []uint64 {
	down := make([]uint64, len(up))
	for i := range up {
		for j, above := range up {
			if above>>i&1 == 1 {
				down[i] |= 1 << j
			}
		}
	}
	return down
}
