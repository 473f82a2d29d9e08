package interp

import (
	"slices"

	"interdict/api"
)

// instr is an instruction: a value of one of the types below, each of which holds what a step of it needs. Values, arrays, functions, channels and levels stand in them by their numbers; at is the place in the text.
type instr any

type constant struct {
	dst int
	num int64
}

type binary struct {
	dst  int
	op   uint8
	a, b int
}

type load struct{ dst, array, index int }

type wrap struct{ dst, array, value int }

type store struct{ array, index, value int }

type call struct {
	dst, function int
	args          []int
}

type input struct{ dst, channel int }

type output struct{ channel, value, at int }

type release struct{ dst, level, value, at int }

type jump struct{ to way }

type branch struct {
	value   int
	to, alt way
}

type leave struct{ value int }

// way is one to a block: which values its phis take when control comes by it. Phis stand at a block's beginning, so the values that they define have numbers that follow one another, from the first one's on.
type way struct {
	block, first int
	args         []int
}

// function is its blocks, without their phis: these are done on the ways to them.
type function [][]instr

// functions makes those of code without a fault.
func functions(c api.Code) []function {
	var l []function
	for _, b := range c.Funcs {
		var f function
		for i := range b.Blocks {
			f = append(f, block(b, i))
		}
		l = append(l, f)
	}
	return l
}

// block makes a block's instructions.
func block(b api.Body, number int) []instr {
	to := func(other int) way { return lead(b, number, other) }
	var l []instr
	for _, x := range b.Blocks[number] {
		if x.Kind != api.KPhi {
			l = append(l, typed(x, to))
		}
	}
	return l
}

// lead makes the way from one block to another.
func lead(b api.Body, from, to int) way {
	w := way{block: to}
	for _, x := range b.Blocks[to] {
		if x.Kind != api.KPhi {
			break
		}
		w.args = append(w.args, x.Args[slices.Index(x.From, from)])
	}
	if len(w.args) > 0 {
		w.first = b.Blocks[to][0].Dst
	}
	return w
}

// typed makes an instruction that is no phi, by the ways from its block.
func typed(x api.Op, to func(block int) way) instr {
	switch x.Kind {
	case api.KConst:
		return constant{x.Dst, x.Num}
	case api.KBin:
		return binary{x.Dst, x.Op, x.Args[0], x.Args[1]}
	case api.KLoad:
		return load{x.Dst, x.Ref, x.Args[0]}
	case api.KWrap:
		return wrap{x.Dst, x.Ref, x.Args[0]}
	case api.KStore:
		return store{x.Ref, x.Args[0], x.Args[1]}
	case api.KCall:
		return call{x.Dst, x.Ref, x.Args}
	case api.KInput:
		return input{x.Dst, x.Ref}
	case api.KOutput:
		return output{x.Ref, x.Args[0], x.At}
	case api.KRelease:
		return release{x.Dst, x.Ref, x.Args[0], x.At}
	case api.KJump:
		return jump{to(x.Ref)}
	case api.KBranch:
		return branch{x.Args[0], to(x.Ref), to(x.Alt)}
	}
	return leave{x.Args[0]}
}
