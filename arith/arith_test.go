package arith_test

import (
	"math"
	"math/big"
	"testing"

	"interdict/api"
	"interdict/arith"
)

// The operators' names, as the chapter tells them with their numbers.
func names() map[uint8]string {
	return map[uint8]string{1: "add", 2: "sub", 3: "mul", 4: "div", 5: "mod", 6: "and", 7: "or", 8: "xor", 9: "shl", 10: "shr", 11: "eq", 12: "less"}
}

func TestOperatorsAndTheirNames(t *testing.T) {
	all := names()
	for op := range 256 {
		op := uint8(op)
		name := all[op]
		if got := arith.Name(op); got != name {
			t.Errorf("P4.1: Name(%d) = %q, want %q", op, got, name)
		}
		if traps := name == "div" || name == "mod"; arith.Traps(op) != traps {
			t.Errorf("P4.1: Traps(%d) = %v", op, arith.Traps(op))
		}
		if name == "" {
			continue
		}
		if got, ok := arith.Op(name); got != op || !ok {
			t.Errorf("P4.1: Op(%q) = %d, %v, want %d", name, got, ok, op)
		}
	}
	for _, s := range []string{"", " ", "ADD", "Add", "add ", " add", "ad", "adds", "addsub", "not", "rem", "equal", "le", "lesser", "shlr", "jump", "call", "+", "\x00", "\xff"} {
		if op, ok := arith.Op(s); op != 0 || ok {
			t.Errorf("P4.1: Op(%q) = %d, %v, want 0, false", s, op, ok)
		}
	}
}

func TestTheOperatorsNumbers(t *testing.T) {
	for op, name := range map[uint8]string{
		api.OpAdd: "add", api.OpSub: "sub", api.OpMul: "mul", api.OpDiv: "div", api.OpMod: "mod", api.OpAnd: "and",
		api.OpOr: "or", api.OpXor: "xor", api.OpShl: "shl", api.OpShr: "shr", api.OpEq: "eq", api.OpLess: "less",
	} {
		if got, ok := arith.Op(name); got != op || !ok || arith.Name(op) != name {
			t.Errorf("P4.1: %q is %d, %v; %d is %q", name, got, ok, op, arith.Name(op))
		}
	}
}

// round takes a number that may be too great or too little round.
func round(n *big.Int) int64 {
	span := new(big.Int).Lsh(big.NewInt(1), 64)
	m := new(big.Int).Mod(n, span)
	if m.Cmp(big.NewInt(math.MaxInt64)) > 0 {
		m.Sub(m, span)
	}
	return m.Int64()
}

// bit tells one bit of a number that goes round from 0 to 2^64 - 1.
func bit(n int64, i int) int {
	return int(uint64(n) / (1 << i) % 2)
}

// bitwise puts a number together from what f makes of each two bits.
func bitwise(a, b int64, f func(x, y int) bool) int64 {
	n := new(big.Int)
	for i := range 64 {
		if f(bit(a, i), bit(b, i)) {
			n.SetBit(n, i, 1)
		}
	}
	return round(n)
}

func one(so bool) int64 {
	if so {
		return 1
	}
	return 0
}

// power is 2^c, c being what the last six bits of b are.
func power(b int64) *big.Int {
	c := 0
	for i := range 6 {
		c += bit(b, i) << i
	}
	return new(big.Int).Exp(big.NewInt(2), big.NewInt(int64(c)), nil)
}

// floor is a divided by b, cut towards the lesser number (b above 0).
func floor(a, b *big.Int) *big.Int {
	q, rest := new(big.Int).QuoRem(a, b, new(big.Int))
	if rest.Sign() < 0 {
		q.Sub(q, big.NewInt(1))
	}
	return q
}

// do is what Do(op, a, b) is to answer, worked out with numbers of any size.
func do(op uint8, a, b int64) (int64, api.Errno) {
	name := names()[op]
	x, y, z := big.NewInt(a), big.NewInt(b), new(big.Int)
	if (name == "div" || name == "mod") && b == 0 {
		return 0, api.ErrZero
	}
	switch name {
	case "add":
		return round(z.Add(x, y)), api.OK
	case "sub":
		return round(z.Sub(x, y)), api.OK
	case "mul":
		return round(z.Mul(x, y)), api.OK
	case "div":
		return round(z.Quo(x, y)), api.OK
	case "mod":
		z.Quo(x, y)
		z.Mul(z, y)
		return round(z.Sub(x, z)), api.OK
	case "and":
		return bitwise(a, b, func(x, y int) bool { return x+y == 2 }), api.OK
	case "or":
		return bitwise(a, b, func(x, y int) bool { return x+y > 0 }), api.OK
	case "xor":
		return bitwise(a, b, func(x, y int) bool { return x != y }), api.OK
	case "shl":
		return round(z.Mul(x, power(b))), api.OK
	case "shr":
		return round(floor(x, power(b))), api.OK
	case "eq":
		return one(x.Cmp(y) == 0), api.OK
	case "less":
		return one(x.Cmp(y) < 0), api.OK
	}
	return 0, api.ErrArg
}

// numbers are those near the bounds, near powers of 2, and some between.
func numbers() []int64 {
	l := []int64{3, -3, 5, -5, 7, -7, 10, -10, 100, -100, 1000003, -1000003, 6148914691236517205, -6148914691236517206}
	for _, c := range []int{0, 1, 2, 5, 6, 7, 8, 16, 31, 32, 33, 61, 62, 63} {
		p := int64(1) << c
		l = append(l, p-1, p, p+1, -p-1, -p, -p+1)
	}
	n := uint64(88172645463325252)
	for range 40 {
		n ^= n << 13
		n ^= n >> 7
		n ^= n << 17
		l = append(l, int64(n), int64(n)>>(n%64))
	}
	return l
}

func TestWhatOperatorsDo(t *testing.T) {
	l := numbers()
	for op := uint8(0); op <= 14; op++ {
		for _, a := range l {
			for _, b := range l {
				n, e := arith.Do(op, a, b)
				want, wantE := do(op, a, b)
				if n != want || e != wantE {
					t.Fatalf("P4.2: %d %q of %d and %d: %d, %d, want %d, %d", op, arith.Name(op), a, b, n, e, want, wantE)
				}
			}
		}
	}
}

func TestShiftsGoByTheLastSixBits(t *testing.T) {
	for _, a := range []int64{1, -1, math.MaxInt64, math.MinInt64, 12345678901, -12345678901} {
		for b := int64(-200); b <= 200; b++ {
			for _, op := range []uint8{api.OpShl, api.OpShr} {
				n, e := arith.Do(op, a, b)
				if want, _ := do(op, a, b); n != want || e != api.OK {
					t.Errorf("P4.2: %s of %d and %d: %d, %d, want %d", arith.Name(op), a, b, n, e, want)
				}
			}
		}
	}
}

func TestDo(t *testing.T) {
	for _, c := range []struct {
		op         uint8
		a, b, want int64
	}{
		{api.OpAdd, math.MaxInt64, 1, math.MinInt64},
		{api.OpAdd, math.MinInt64, -1, math.MaxInt64},
		{api.OpAdd, 2, 3, 5},
		{api.OpSub, math.MinInt64, 1, math.MaxInt64},
		{api.OpSub, 0, math.MinInt64, math.MinInt64},
		{api.OpSub, 2, 3, -1},
		{api.OpMul, 1 << 62, 4, 0},
		{api.OpMul, math.MinInt64, -1, math.MinInt64},
		{api.OpMul, -6, 7, -42},
		{api.OpDiv, -7, 2, -3},
		{api.OpDiv, 7, -2, -3},
		{api.OpDiv, math.MinInt64, -1, math.MinInt64},
		{api.OpDiv, math.MinInt64, 1, math.MinInt64},
		{api.OpMod, -7, 2, -1},
		{api.OpMod, 7, -2, 1},
		{api.OpMod, math.MinInt64, -1, 0},
		{api.OpAnd, -1, 12, 12},
		{api.OpOr, math.MinInt64, 1, math.MinInt64 + 1},
		{api.OpXor, 6, 3, 5},
		{api.OpXor, -1, -1, 0},
		{api.OpShl, 1, 64, 1},
		{api.OpShl, 1, 63, math.MinInt64},
		{api.OpShl, 1, -1, math.MinInt64},
		{api.OpShl, 3, 63, math.MinInt64},
		{api.OpShr, -1, 63, -1},
		{api.OpShr, -7, 1, -4},
		{api.OpShr, -7, 65, -4},
		{api.OpShr, math.MinInt64, -1, -1},
		{api.OpShr, 7, 1, 3},
		{api.OpEq, 3, 3, 1},
		{api.OpEq, 3, -3, 0},
		{api.OpEq, 0, math.MinInt64, 0},
		{api.OpLess, -1, 0, 1},
		{api.OpLess, math.MinInt64, math.MaxInt64, 1},
		{api.OpLess, math.MaxInt64, math.MinInt64, 0},
		{api.OpLess, 4, 4, 0},
	} {
		if n, e := arith.Do(c.op, c.a, c.b); n != c.want || e != api.OK {
			t.Errorf("P4.2: %s of %d and %d: %d, %d, want %d", arith.Name(c.op), c.a, c.b, n, e, c.want)
		}
	}
}

func TestDoOfWhatMayNotBe(t *testing.T) {
	for op := range 256 {
		for _, b := range []int64{0, 1, -1} {
			n, e := arith.Do(uint8(op), 7, b)
			want, wantE := do(uint8(op), 7, b)
			if n != want || e != wantE {
				t.Errorf("P4.2: Do(%d, 7, %d) = %d, %d, want %d, %d", op, b, n, e, want, wantE)
			}
		}
	}
	for _, a := range []int64{0, 1, -1, math.MinInt64, math.MaxInt64} {
		for _, op := range []uint8{api.OpDiv, api.OpMod} {
			if n, e := arith.Do(op, a, 0); n != 0 || e != api.ErrZero {
				t.Errorf("P4.2: %s of %d and 0: %d, %d", arith.Name(op), a, n, e)
			}
		}
	}
}
