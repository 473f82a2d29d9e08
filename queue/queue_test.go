package queue_test

import (
	"math"
	"math/rand"
	"slices"
	"testing"

	"interdict/api"
	"interdict/policy"
	"interdict/queue"
)

const setup = "level low\nlevel high\nflow low high\ninput key high\ninput net low\noutput net low\noutput vault high\ndepth 8"

// diamond has four levels, two of which stand neither above the other.
const diamond = "level top\nlevel left\nlevel bottom\nlevel right\nflow bottom left\nflow bottom right\nflow left top\nflow right top\n" +
	"input a left\ninput b right\ninput c bottom\ninput d top\ninput e left\noutput a top\noutput b right\noutput c left\noutput d bottom\ndepth 1"

// setting is the policy of a text.
func setting(t *testing.T, s string) api.Policy {
	t.Helper()
	p, _, e := policy.Parse(s)
	if e != api.OK {
		t.Fatalf("the test's own policy %q is refused: %d", s, e)
	}
	return p
}

// box is one with inputs that may be.
func box(t *testing.T, p api.Policy, inputs ...[]int64) *queue.Box {
	t.Helper()
	b, e := queue.New(p, inputs)
	if e != api.OK || b == nil {
		t.Fatalf("P15.1: New(%v) = %v, %d", inputs, b, e)
	}
	return b
}

// out and let are an output event and a release that may be.
func out(ref int, value int64) api.Event { return api.Event{Kind: api.EOutput, Ref: ref, Value: value} }
func let(ref int, value int64) api.Event {
	return api.Event{Kind: api.ERelease, Ref: ref, Value: value}
}

// atOrBelow: is a level at or below another one? So say the policy's own masks.
func atOrBelow(p api.Policy, a, b int) bool { return p.Up[a]&(1<<b) != 0 }

// mayBe: may inputs be?
func mayBe(p api.Policy, inputs [][]int64) bool {
	return len(inputs) <= len(p.Ins) && !slices.ContainsFunc(inputs, func(l []int64) bool { return len(l) > 4096 })
}

// row is a list of some inputs, whether it is there or not.
func row(inputs [][]int64, i int) []int64 {
	if i >= len(inputs) {
		return nil
	}
	return inputs[i]
}

// eventMayBe: may an event be?
func eventMayBe(p api.Policy, e api.Event) bool {
	if e.Fn < 0 || e.At < 0 || e.Ref < 0 {
		return false
	}
	return e.Kind == 1 && e.Ref < len(p.Outs) || e.Kind == 2 && e.Ref < len(p.Levels)
}

// sees: does a level see an event that may be?
func sees(p api.Policy, level int, e api.Event) bool {
	if e.Kind == 1 {
		return atOrBelow(p, p.Outs[e.Ref].Level, level)
	}
	return atOrBelow(p, e.Ref, level)
}

// same: are the lists the same, one by one?
func same(a, b [][]int64) bool {
	return slices.EqualFunc(a, b, func(x, y []int64) bool { return slices.Equal(x, y) })
}

// clones are the lists in memory of their own.
func clones(l [][]int64) [][]int64 {
	var c [][]int64
	for _, x := range l {
		c = append(c, slices.Clone(x))
	}
	return c
}

// take holds what a box gives against what is wanted.
func take(t *testing.T, b *queue.Box, input int, want int64, wantE api.Errno) {
	t.Helper()
	if n, e := b.Take(input); n != want || e != wantE {
		t.Errorf("P15.1: Take(%d) = %d, %d, want %d, %d", input, n, e, want, wantE)
	}
}

func TestTake(t *testing.T) {
	p := setting(t, setup)
	// The chapter's example.
	b := box(t, p, []int64{7, 8})
	take(t, b, 0, 7, api.OK)
	take(t, b, 0, 8, api.OK)
	take(t, b, 0, 0, api.ErrDry)
	take(t, b, 0, 0, api.ErrDry)
	// Each input by itself; a list that is not there is empty, and there is no input beyond.
	b = box(t, p, []int64{1, -2, math.MaxInt64}, []int64{math.MinInt64, 0})
	take(t, b, 1, math.MinInt64, api.OK)
	take(t, b, 0, 1, api.OK)
	take(t, b, 0, -2, api.OK)
	take(t, b, 1, 0, api.OK)
	take(t, b, 1, 0, api.ErrDry)
	take(t, b, 0, math.MaxInt64, api.OK)
	take(t, b, 0, 0, api.ErrDry)
	for _, inputs := range [][][]int64{nil, {}, {nil}, {{}, {}}, {nil, nil}} {
		b = box(t, p, inputs...)
		for _, i := range []int{0, 1} {
			take(t, b, i, 0, api.ErrDry)
		}
		for _, i := range []int{-1, 2, 64, math.MaxInt, math.MinInt} {
			take(t, b, i, 0, api.ErrArg)
		}
	}
	// Two boxes of the same inputs do not hang on one another.
	inputs := [][]int64{{5, 6}}
	b, c := box(t, p, inputs...), box(t, p, inputs...)
	take(t, b, 0, 5, api.OK)
	take(t, b, 0, 6, api.OK)
	take(t, c, 0, 5, api.OK)
}

func TestLeft(t *testing.T) {
	p := setting(t, setup)
	b := box(t, p, []int64{1, 2}, []int64{3})
	left := func(input, want int) {
		t.Helper()
		if got := b.Left(input); got != want {
			t.Errorf("P15.1: Left(%d) = %d, want %d", input, got, want)
		}
	}
	for _, i := range []int{-1, 2, 64, math.MaxInt, math.MinInt} {
		left(i, 0)
	}
	for want := 2; want >= 0; want-- {
		left(0, want)
		left(0, want)
		left(1, 1)
		b.Take(0)
	}
	left(0, 0)
	b.Take(1)
	left(1, 0)
	b = box(t, p)
	left(0, 0)
	left(1, 0)
}

// TestNew: which policies and inputs may be.
func TestNew(t *testing.T) {
	p := setting(t, setup)
	full, over := make([]int64, 4096), make([]int64, 4097)
	full[4095] = 9
	many := api.Policy{Levels: []string{"low"}, Up: []uint64{1}, Depth: 1}
	for i := range 32 {
		many.Ins = append(many.Ins, api.Channel{Name: "i" + string(rune('A'+i%26)) + string(rune('0'+i/26))})
	}
	for _, c := range []struct {
		p      api.Policy
		inputs [][]int64
		want   api.Errno
	}{
		{p, nil, api.OK},
		{p, [][]int64{{1}}, api.OK},
		{p, [][]int64{{1}, {2}}, api.OK},
		{p, [][]int64{{1}, {2}, {3}}, api.ErrArg},
		{p, [][]int64{{}, {}, {}}, api.ErrArg},
		{p, [][]int64{nil, nil, nil}, api.ErrArg},
		{p, [][]int64{full, full}, api.OK},
		{p, [][]int64{over}, api.ErrArg},
		{p, [][]int64{nil, over}, api.ErrArg},
		{p, [][]int64{over, full}, api.ErrArg},
		{setting(t, "level low\ndepth 1"), nil, api.OK},
		{setting(t, "level low\ndepth 1"), [][]int64{nil}, api.ErrArg},
		{many, make([][]int64, 32), api.OK},
		{many, make([][]int64, 33), api.ErrArg},
		{api.Policy{}, nil, api.ErrArg},
		{api.Policy{Levels: p.Levels, Up: p.Up, Ins: p.Ins}, nil, api.ErrArg},
		{api.Policy{Levels: p.Levels, Up: []uint64{1, 2}, Ins: p.Ins, Depth: 1}, nil, api.ErrArg},
		{api.Policy{Levels: p.Levels, Up: p.Up, Ins: []api.Channel{{Name: "a", Level: 2}}, Depth: 1}, nil, api.ErrArg},
	} {
		b, e := queue.New(c.p, c.inputs)
		if e != c.want || (b == nil) != (e != api.OK) {
			t.Errorf("P15.1: New(%v, %d lists) = %v, %d, want %d", c.p, len(c.inputs), b, e, c.want)
		}
	}
	b := box(t, p, nil, full)
	for i := range 4096 {
		if n, e := b.Take(1); n != full[i] || e != api.OK || b.Left(1) != 4095-i {
			t.Fatalf("P15.1: the number %d of a full input is %d, %d, and %d are left", i, n, e, b.Left(1))
		}
	}
	take(t, b, 1, 0, api.ErrDry)
}

func TestPut(t *testing.T) {
	p := setting(t, diamond+"\noutput f top") // five outputs, four levels
	b := box(t, p)
	if l := b.Trace(); len(l) != 0 {
		t.Errorf("P15.1: Trace of a new box = %v", l)
	}
	var want []api.Event
	for _, e := range []api.Event{
		out(0, 3), let(0, 4), out(4, -5), let(3, math.MinInt64), out(0, 3), out(4, math.MaxInt64),
		{Kind: api.EOutput, Ref: 1, Value: 2, Fn: 63, At: 65535},
		{Kind: api.ERelease, Ref: 1, Value: 2, Fn: math.MaxInt, At: math.MaxInt},
		// Of these none may be.
		out(5, 1), out(-1, 1), out(math.MaxInt, 1), out(math.MinInt, 1),
		let(4, 1), let(-1, 1), let(math.MaxInt, 1), let(math.MinInt, 1),
		{}, {Kind: 0, Ref: 0}, {Kind: 3, Ref: 0}, {Kind: 255, Ref: 0},
		{Kind: api.EOutput, Fn: -1}, {Kind: api.EOutput, At: -1}, {Kind: api.EOutput, Fn: math.MinInt}, {Kind: api.EOutput, At: math.MinInt},
		{Kind: api.ERelease, Fn: -1}, {Kind: api.ERelease, At: -1}, {Kind: api.ERelease, Fn: -1, At: -1},
		out(2, 6),
	} {
		wantE := api.ErrArg
		if eventMayBe(p, e) {
			want, wantE = append(want, e), api.OK
		}
		if got := b.Put(e); got != wantE {
			t.Errorf("P15.1: Put(%v) = %d, want %d", e, got, wantE)
		}
		if l := b.Trace(); !slices.Equal(l, want) {
			t.Fatalf("P15.1: behind Put(%v) Trace = %v, want %v", e, l, want)
		}
	}
	if len(want) != 9 {
		t.Errorf("the test's own events are %d", len(want))
	}
	// Where there are no outputs no event names one.
	b = box(t, setting(t, "level low\ndepth 1"))
	if b.Put(out(0, 1)) != api.ErrArg || b.Put(let(0, 1)) != api.OK || b.Put(let(1, 1)) != api.ErrArg || len(b.Trace()) != 1 {
		t.Errorf("P15.1: of a policy without outputs: %v", b.Trace())
	}
}

func TestNilBox(t *testing.T) {
	var b *queue.Box
	if n, e := b.Take(0); n != 0 || e != api.ErrArg {
		t.Errorf("P15.1: Take of a nil box = %d, %d", n, e)
	}
	if b.Left(0) != 0 || b.Put(out(0, 1)) != api.ErrArg || len(b.Trace()) != 0 {
		t.Error("P15.1: of a nil box")
	}
}

// TestBoxesByChance does much to boxes, and holds them against lists.
func TestBoxesByChance(t *testing.T) {
	r := rand.New(rand.NewSource(15))
	for range 300 {
		p := setting(t, []string{setup, diamond}[r.Intn(2)])
		left := make([][]int64, len(p.Ins))
		for i := range left {
			for range r.Intn(5) {
				left[i] = append(left[i], r.Int63()-r.Int63())
			}
		}
		b := box(t, p, left[:r.Intn(len(left)+1)]...)
		for i := range left {
			if b.Left(i) == 0 {
				left[i] = nil // it was not handed in
			}
		}
		var events []api.Event
		for range 60 {
			i := r.Intn(len(left)+2) - 1
			switch r.Intn(3) {
			case 0:
				want, wantE := int64(0), api.ErrArg
				if i >= 0 && i < len(left) {
					if wantE = api.ErrDry; len(left[i]) > 0 {
						want, wantE = left[i][0], api.OK
						left[i] = left[i][1:]
					}
				}
				take(t, b, i, want, wantE)
			case 1:
				e := api.Event{Kind: uint8(r.Intn(4)), Ref: i, Value: r.Int63(), Fn: r.Intn(9) - 1, At: r.Intn(9) - 1}
				if (b.Put(e) == api.OK) != eventMayBe(p, e) {
					t.Errorf("P15.1: Put(%v)", e)
				}
				if eventMayBe(p, e) {
					events = append(events, e)
				}
			case 2:
				if got := b.Left(i); got != len(row(left, max(i, 0))) && i >= 0 || got != 0 && i < 0 {
					t.Errorf("P15.1: Left(%d) = %d", i, got)
				}
			}
			if !slices.Equal(b.Trace(), events) {
				t.Fatalf("P15.1: Trace = %v, want %v", b.Trace(), events)
			}
		}
	}
}

// TestNothingIsShared: what is handed in and out may be changed, and nothing that the box tells changes with it.
func TestNothingIsShared(t *testing.T) {
	p := setting(t, setup)
	room := []int64{1, 2, 3, 77}
	lists := [][]int64{room[:3], {4}, {88}}
	b := box(t, p, lists[:2]...)
	room[0], room[1], lists[1] = 50, 51, []int64{52}
	take(t, b, 0, 1, api.OK)
	take(t, b, 1, 4, api.OK)
	p.Levels[0], p.Up[0], p.Ins[0].Level, p.Outs[1].Level = "none", 0, 9, 9
	take(t, b, 0, 2, api.OK)
	if e := b.Put(out(1, 5)); e != api.OK {
		t.Errorf("R4: what a box allows is changed: %d", e)
	}
	if room[2] != 3 || room[3] != 77 || lists[2][0] != 88 {
		t.Errorf("R4: what was handed in is changed: %v, %v", room, lists)
	}
	b.Put(let(0, 6))
	first := b.Trace()
	first[0] = api.Event{}
	_ = append(first[:1], api.Event{}, api.Event{})
	second := b.Trace()
	if !slices.Equal(second, []api.Event{out(1, 5), let(0, 6)}) {
		t.Errorf("R4: a later answer is changed: %v", second)
	}
	b.Put(out(0, 7))
	_ = append(second, api.Event{})
	if !slices.Equal(b.Trace(), []api.Event{out(1, 5), let(0, 6), out(0, 7)}) {
		t.Errorf("R4: what is kept is changed: %v", b.Trace())
	}
}

// wantSeen is what Seen is to tell.
func wantSeen(p api.Policy, level int, kind uint8, l []api.Event) []api.Event {
	var want []api.Event
	if !policy.Right(p) || level < 0 || level >= len(p.Levels) {
		return nil
	}
	for _, e := range l {
		if e.Kind == kind && eventMayBe(p, e) && sees(p, level, e) {
			want = append(want, e)
		}
	}
	return want
}

// checkSeen holds what is told of events against the chapter.
func checkSeen(t *testing.T, p api.Policy, level int, kind uint8, l []api.Event) []api.Event {
	t.Helper()
	before := slices.Clone(l)
	want := wantSeen(p, level, kind, l)
	got := queue.Seen(p, level, kind, l)
	if !slices.Equal(got, want) {
		t.Errorf("P15.2: Seen(%d, %d, %v) = %v, want %v", level, kind, l, got, want)
	}
	for i := range got {
		got[i] = api.Event{}
	}
	if !slices.Equal(l, before) {
		t.Fatalf("R4: what was handed in is changed: %v, was %v", l, before)
	}
	return want
}

func TestSeen(t *testing.T) {
	p := setting(t, setup)
	l := []api.Event{
		out(1, 3), out(0, 4), let(0, 5), let(1, 6), out(0, 7), out(2, 8), out(-1, 8), let(2, 8), let(-1, 8), {Kind: 3}, {},
		{Kind: api.EOutput, Fn: -1}, {Kind: api.ERelease, At: -1}, {Kind: api.EOutput, Fn: 2, At: 9},
	}
	for _, c := range []struct {
		level int
		kind  uint8
		want  []api.Event
	}{
		{0, api.EOutput, []api.Event{out(0, 4), out(0, 7), {Kind: api.EOutput, Fn: 2, At: 9}}},
		{1, api.EOutput, []api.Event{out(1, 3), out(0, 4), out(0, 7), {Kind: api.EOutput, Fn: 2, At: 9}}},
		{0, api.ERelease, []api.Event{let(0, 5)}},
		{1, api.ERelease, []api.Event{let(0, 5), let(1, 6)}},
		{0, 0, nil}, {1, 0, nil}, {1, 3, nil}, {1, 255, nil},
		{-1, api.EOutput, nil}, {2, api.EOutput, nil}, {64, api.ERelease, nil}, {math.MaxInt, api.ERelease, nil}, {math.MinInt, api.EOutput, nil},
	} {
		if got := queue.Seen(p, c.level, c.kind, l); !slices.Equal(got, c.want) {
			t.Errorf("P15.2: Seen(%d, %d) = %v, want %v", c.level, c.kind, got, c.want)
		}
		checkSeen(t, p, c.level, c.kind, l)
		checkSeen(t, p, c.level, c.kind, nil)
		if got := queue.Seen(api.Policy{}, c.level, c.kind, l); len(got) != 0 {
			t.Errorf("P15.2: Seen of no policy = %v", got)
		}
	}
	// A policy that may not be, though its levels are all right.
	p.Depth = 0
	if got := queue.Seen(p, 1, api.EOutput, l); len(got) != 0 {
		t.Errorf("P15.2: Seen of a policy that may not be = %v", got)
	}
}

// TestAllSeen asks of each level of an order that is no chain, with all events near those that may be.
func TestAllSeen(t *testing.T) {
	p := setting(t, diamond)
	var l []api.Event
	for _, kind := range []uint8{2, 1, 0, 3} {
		for ref := -1; ref <= 5; ref++ {
			for fn := -1; fn <= 1; fn++ {
				for at := -1; at <= 1; at++ {
					l = append(l, api.Event{Kind: kind, Ref: ref, Value: int64(len(l)), Fn: fn, At: at})
				}
			}
		}
	}
	told := 0
	for level := -1; level <= 4; level++ {
		for kind := range uint8(5) {
			told += len(checkSeen(t, p, level, kind, l))
			slices.Reverse(l)
		}
	}
	if told != 2*4*9 { // nine pairs of levels, four outputs and four levels, four events that may be of each
		t.Errorf("the test's own events are seen %d times", told)
	}
}

// checkPair holds what is told of two inputs against the chapter.
func checkPair(t *testing.T, p api.Policy, level int, a, b [][]int64) bool {
	t.Helper()
	beforeA, beforeB := clones(a), clones(b)
	alike, wantE := false, api.ErrArg
	var want [][]int64
	if policy.Right(p) && level >= 0 && level < len(p.Levels) && mayBe(p, a) && mayBe(p, b) {
		alike, wantE = true, api.OK
		for i, c := range p.Ins {
			if !atOrBelow(p, c.Level, level) {
				want = append(want, row(b, i))
				continue
			}
			want = append(want, row(a, i))
			alike = alike && slices.Equal(row(a, i), row(b, i))
		}
	}
	if got := queue.Alike(p, level, a, b); got != alike {
		t.Errorf("P15.2: Alike(%d, %v, %v) = %v", level, a, b, got)
	}
	got, e := queue.Mixed(p, level, a, b)
	if e != wantE || !same(got, want) {
		t.Errorf("P15.2: Mixed(%d, %v, %v) = %v, %d, want %v, %d", level, a, b, got, e, want, wantE)
	}
	if e == api.OK && !queue.Alike(p, level, a, got) {
		t.Errorf("P15.2: %v and Mixed of it and %v at %d are not alike: %v", a, b, level, got)
	}
	// What is changed in the answer is changed nowhere else, in its spare room neither.
	for i := range got {
		other := clones(got)
		for k := range got[i] {
			got[i][k]++
		}
		_ = append(got[i], 99)
		for j := range got {
			if j != i && !slices.Equal(got[j], other[j]) {
				t.Errorf("R4: two lists of one answer share memory: %v", got)
			}
		}
	}
	if !same(a, beforeA) || !same(b, beforeB) {
		t.Fatalf("R4: what was handed in is changed: %v, %v, was %v, %v", a, b, beforeA, beforeB)
	}
	return alike
}

func TestAlike(t *testing.T) {
	p := setting(t, setup) // key is high, net is low
	over := make([]int64, 4097)
	for _, c := range []struct {
		level int
		a, b  [][]int64
		want  bool
	}{
		{0, nil, nil, true},
		{0, [][]int64{{1}}, [][]int64{{2}}, true},
		{1, [][]int64{{1}}, [][]int64{{2}}, false},
		{1, [][]int64{{1}}, [][]int64{{1}}, true},
		{0, [][]int64{{1}, {5}}, [][]int64{{2}, {5}}, true},
		{0, [][]int64{{1}, {5}}, [][]int64{{1}, {6}}, false},
		{1, [][]int64{{1}, {5}}, [][]int64{{1}, {6}}, false},
		{0, [][]int64{{1}, {5}}, [][]int64{{1}, {5, 0}}, false},
		{0, [][]int64{{1}, {5}}, [][]int64{{1}}, false},
		{0, [][]int64{{1}}, [][]int64{{1}, {5}}, false},
		{0, [][]int64{{1}}, [][]int64{{1}, {}}, true},
		{1, [][]int64{{}, nil}, nil, true},
		{1, [][]int64{{1, 2}}, [][]int64{{2, 1}}, false},
		// Inputs that may not be, and levels that are none.
		{0, [][]int64{{}, {}, {}}, nil, false},
		{0, nil, [][]int64{{}, {}, {}}, false},
		{0, [][]int64{over}, [][]int64{over}, false},
		{0, [][]int64{over}, nil, false},
		{0, nil, [][]int64{over}, false},
		{0, [][]int64{over[:4096]}, nil, true},
		{1, [][]int64{over[:4096]}, [][]int64{over[:4096]}, true},
		{1, [][]int64{over[:4096]}, [][]int64{over[:4095]}, false},
		{-1, nil, nil, false}, {2, nil, nil, false}, {64, nil, nil, false}, {math.MaxInt, nil, nil, false}, {math.MinInt, nil, nil, false},
	} {
		if got := queue.Alike(p, c.level, c.a, c.b); got != c.want {
			t.Errorf("P15.2: Alike(%d, %v, %v) = %v", c.level, c.a, c.b, got)
		}
		checkPair(t, p, c.level, c.a, c.b)
	}
	none := setting(t, "level low\ndepth 1")
	if !queue.Alike(none, 0, nil, nil) || queue.Alike(none, 1, nil, nil) || queue.Alike(api.Policy{}, 0, nil, nil) {
		t.Error("P15.2: Alike without inputs")
	}
	p.Depth = 65
	if queue.Alike(p, 0, nil, nil) {
		t.Error("P15.2: Alike of a policy that may not be")
	}
	if l, e := queue.Mixed(p, 0, nil, nil); l != nil || e != api.ErrArg {
		t.Errorf("P15.2: Mixed of a policy that may not be = %v, %d", l, e)
	}
}

func TestMixed(t *testing.T) {
	p := setting(t, diamond) // a and e at left, b at right, c at the bottom, d at the top
	a, b := [][]int64{{1}, {2}, {3}, {4}, {5}}, [][]int64{{11}, {12}, {13}, {14}, {15}}
	for level, want := range map[int][][]int64{
		0: {{1}, {2}, {3}, {4}, {5}},
		1: {{1}, {12}, {3}, {14}, {5}},
		2: {{11}, {12}, {3}, {14}, {15}},
		3: {{11}, {2}, {3}, {14}, {15}},
	} {
		if got, e := queue.Mixed(p, level, a, b); e != api.OK || !same(got, want) {
			t.Errorf("P15.2: Mixed at %d = %v, %d, want %v", level, got, e, want)
		}
	}
	for _, level := range []int{-1, 4, math.MaxInt, math.MinInt} {
		if got, e := queue.Mixed(p, level, a, b); e != api.ErrArg || got != nil {
			t.Errorf("P15.2: Mixed at no level = %v, %d", got, e)
		}
	}
	// A list for each input, whatever is there.
	if got, e := queue.Mixed(p, 1, nil, nil); e != api.OK || len(got) != 5 {
		t.Errorf("P15.2: Mixed of none = %v, %d", got, e)
	}
	if got, e := queue.Mixed(p, 1, a[:1], b[:2]); e != api.OK || !same(got, [][]int64{{1}, {12}, {}, {}, {}}) {
		t.Errorf("P15.2: Mixed of a few = %v, %d", got, e)
	}
	// The same list in both, and twice in one: each of the answer is another one.
	l := []int64{7, 8, 9}
	checkPair(t, p, 1, [][]int64{l[:2], l[:2], l[:1], l, l}, [][]int64{l, l[:2], l[:2], l, l})
}

// TestPairsByChance holds many pairs of inputs, right ones and wrong ones, against the chapter.
func TestPairsByChance(t *testing.T) {
	r := rand.New(rand.NewSource(16))
	alike := 0
	for range 4000 {
		p := setting(t, []string{setup, diamond, "level low\ndepth 1"}[r.Intn(3)])
		some := func() [][]int64 {
			var l [][]int64
			for range r.Intn(len(p.Ins) + 1) {
				l = append(l, slices.Repeat([]int64{int64(r.Intn(2))}, r.Intn(3)))
			}
			switch r.Intn(20) {
			case 0:
				l = append(l, make([][]int64, len(p.Ins))...)
			case 1:
				l = append(l, make([]int64, 4095+r.Intn(3)))
			}
			return l
		}
		a, b := some(), some()
		if r.Intn(2) == 0 {
			b = clones(a)
			if len(b) > 0 {
				b[r.Intn(len(b))] = []int64{3}
			}
		}
		if checkPair(t, p, r.Intn(len(p.Levels)+2)-1, a, b) {
			alike++
		}
	}
	if alike < 500 {
		t.Errorf("the test's own inputs are alike only %d times", alike)
	}
}

// TestGreat: as many levels and channels as there may be, and more events than one.
func TestGreat(t *testing.T) {
	p := api.Policy{Depth: 64}
	for i := range 64 {
		p.Levels = append(p.Levels, "l"+string(rune('A'+i%26))+string(rune('0'+i/26)))
		p.Up = append(p.Up, math.MaxUint64<<i)
	}
	for i := range 32 {
		p.Ins = append(p.Ins, api.Channel{Name: p.Levels[i], Level: 2 * i})
		p.Outs = append(p.Outs, api.Channel{Name: p.Levels[i], Level: 63 - 2*i})
	}
	if !policy.Right(p) {
		t.Fatal("the test's own policy may not be")
	}
	var l []api.Event
	b := box(t, p, make([][]int64, 32)...)
	for i := range 200000 {
		e := out(i%32, int64(i))
		if i%3 == 0 {
			e = let(i%64, int64(i))
		}
		if b.Put(e) != api.OK {
			t.Fatalf("P15.1: Put(%v)", e)
		}
		l = append(l, e)
	}
	if !slices.Equal(b.Trace(), l) {
		t.Error("P15.1: Trace of many events")
	}
	for _, level := range []int{0, 1, 31, 62, 63} {
		for _, kind := range []uint8{api.EOutput, api.ERelease} {
			checkSeen(t, p, level, kind, l)
		}
	}
	full := slices.Repeat([][]int64{make([]int64, 4096)}, 32)
	other := clones(full)
	other[20][4095] = 1 // at the level 40
	for level := range 64 {
		if got := checkPair(t, p, level, full, other); got != (level < 40) {
			t.Errorf("P15.2: Alike at %d = %v", level, got)
		}
	}
}
