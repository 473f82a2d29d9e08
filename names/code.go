package names

import (
	"interdict/api"
	"interdict/policy"
	"interdict/text"
)

// checker is code that is looked at, and what of it may come yet.
type checker struct {
	api.Code
	there [things]int // how many there are of each kind: the function's own values and blocks
	next  int         // the number of the value that is defined next
	left  int         // how many instructions there may be yet
}

// Right: may code be?
func Right(p api.Policy, c api.Code) bool {
	if !policy.Right(p) || len(c.Arrays) > api.MaxArrays || len(c.Funcs) > api.MaxFuncs {
		return false
	}
	k := &checker{Code: c, left: api.MaxCode, there: [things]int{
		none: 1, array: len(c.Arrays), function: len(c.Funcs),
		input: len(p.Ins), output: len(p.Outs), level: len(p.Levels),
	}}
	return k.cells() && k.main() && k.bodies()
}

// is: is there one of that number?
func (k *checker) is(what thing, number int) bool { return number >= 0 && number < k.there[what] }

// are: is there one of each of these numbers?
func (k *checker) are(what thing, numbers []int) bool {
	for _, i := range numbers {
		if !k.is(what, i) {
			return false
		}
	}
	return true
}

// cells: may the arrays be?
func (k *checker) cells() bool {
	for _, a := range k.Arrays {
		if a.Size < 1 || a.Size > api.MaxSize || !k.is(level, a.Level) {
			return false
		}
	}
	return true
}

// main: is there a function main that may be?
func (k *checker) main() bool { return k.is(function, k.Main) && k.Funcs[k.Main].Params == 0 }

// bodies: may the functions be?
func (k *checker) bodies() bool {
	for _, b := range k.Funcs {
		if !k.body(b) {
			return false
		}
	}
	return true
}

// body: may a function be?
func (k *checker) body(b api.Body) bool {
	if b.Params < 0 || b.Params > api.MaxParams || len(b.Blocks) < 1 || len(b.Blocks) > api.MaxBlocks {
		return false
	}
	k.there[block], k.there[value], k.next = len(b.Blocks), b.Vars, b.Params
	for _, l := range b.Blocks {
		if !k.block(l) {
			return false
		}
	}
	return k.next == b.Vars
}

// block: may a block be?
func (k *checker) block(l []api.Op) bool {
	if len(l) < 1 || len(l) > k.left {
		return false
	}
	k.left -= len(l)
	ahead := api.KPhi
	for i, x := range l {
		if stands(x.Kind, ahead, i == len(l)-1) != api.OK || !k.op(x) {
			return false
		}
		ahead = x.Kind
	}
	return true
}

// op: may an instruction be?
func (k *checker) op(x api.Op) bool {
	if x.Kind < api.KConst || x.Kind > api.KReturn {
		return false
	}
	s := shapes[x.Kind]
	return operates(x) && k.defines(s, x.Dst) && k.is(s.ref, x.Ref) && k.is(s.alt, x.Alt) && k.lists(s, x)
}

// operates: has an instruction an operator and a number, just where its kind has them?
func operates(x api.Op) bool {
	if x.Kind == api.KBin {
		return x.Op >= api.OpAdd && x.Op <= api.OpLess && x.Num == 0
	}
	return x.Op == 0 && (x.Kind == api.KConst || x.Num == 0)
}

// defines: is it the number of the value that an instruction of that shape defines, which is the next one?
func (k *checker) defines(s shape, dst int) bool {
	if !s.defines {
		return dst == -1
	}
	k.next++
	return dst == k.next-1
}

// lists: may the lists of an instruction be, the Ref of which may be?
func (k *checker) lists(s shape, x api.Op) bool {
	return k.counts(s, x) && k.are(value, x.Args) && k.are(block, x.From)
}

// counts: are the lists of an instruction as long as they are to be?
func (k *checker) counts(s shape, x api.Op) bool {
	switch x.Kind {
	case api.KPhi:
		return len(x.From) >= 1 && len(x.From) <= api.MaxBlocks && len(x.Args) == len(x.From)
	case api.KCall:
		return len(x.From) == 0 && len(x.Args) == k.Funcs[x.Ref].Params
	}
	return len(x.From) == 0 && len(x.Args) == s.args
}

// raiser is code that becomes a program, and the policy that names what the code does not hold.
type raiser struct {
	api.Code
	p api.Policy
}

// Raise makes a program of code.
func Raise(p api.Policy, c api.Code) (api.Program, api.Errno) {
	if !Right(p, c) {
		return api.Program{}, api.ErrArg
	}
	r := &raiser{Code: c, p: p}
	var q api.Program
	for i, a := range c.Arrays {
		q.Arrays = append(q.Arrays, api.Array{Name: r.name(array, i), Size: a.Size, Level: r.name(level, a.Level)})
	}
	for i, b := range c.Funcs {
		q.Funcs = append(q.Funcs, r.function(i, b))
	}
	return q, api.OK
}

// function makes a function.
func (r *raiser) function(number int, b api.Body) api.Func {
	f := api.Func{Name: r.name(function, number)}
	for i := range b.Params {
		f.Params = append(f.Params, r.name(value, i))
	}
	for i, l := range b.Blocks {
		k := api.Block{Name: r.name(block, i)}
		for _, x := range l {
			k.Code = append(k.Code, r.instr(x))
		}
		f.Blocks = append(f.Blocks, k)
	}
	return f
}

// instr makes an instruction.
func (r *raiser) instr(x api.Op) api.Instr {
	s := shapes[x.Kind]
	y := api.Instr{
		Kind: x.Kind, Op: x.Op, Num: x.Num, At: x.At,
		Ref: r.name(s.ref, x.Ref), Alt: r.name(s.alt, x.Alt),
		Args: r.all(value, x.Args), From: r.all(block, x.From),
	}
	if s.defines {
		y.Dst = r.name(value, x.Dst)
	}
	return y
}

// all names several of one kind.
func (r *raiser) all(what thing, numbers []int) []string {
	var l []string
	for _, i := range numbers {
		l = append(l, r.name(what, i))
	}
	return l
}

// name names the one of that number.
func (r *raiser) name(what thing, number int) string {
	switch what {
	case array:
		return called("a", number)
	case function:
		if number == r.Main {
			return "main"
		}
		return called("f", number)
	case input:
		return r.p.Ins[number].Name
	case output:
		return r.p.Outs[number].Name
	case level:
		return r.p.Levels[number]
	case block:
		return called("b", number)
	case value:
		return called("v", number)
	}
	return ""
}

// called is a name made of a letter and a number.
func called(letter string, number int) string { return letter + text.Show(int64(number)) }
