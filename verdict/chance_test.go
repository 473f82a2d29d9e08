package verdict_test

import (
	"math/rand"
	"reflect"
	"slices"
	"strconv"
	"strings"
	"testing"

	"interdict/api"
	"interdict/audit"
	"interdict/names"
	"interdict/policy"
	"interdict/sinks"
	"interdict/ssa"
	"interdict/text"
	"interdict/tree"
	"interdict/verdict"
)

// read is what is to be said, by the chapter's own words.
func read(pol, prog string) (verdict.Verdict, api.Policy) {
	wrong := func(in uint8, at int, e api.Errno) (verdict.Verdict, api.Policy) {
		kind := verdict.VMalformed
		if e == api.ErrLong || e == api.ErrFull {
			kind = verdict.VLimit
		}
		return verdict.Verdict{Kind: kind, In: in, At: at, Error: e}, api.Policy{}
	}
	p, at, e := policy.Parse(pol)
	if e != api.OK {
		return wrong(1, at, e)
	}
	q, at, e := tree.Parse(prog)
	if e != api.OK {
		return wrong(2, at, e)
	}
	c, at, e := names.Resolve(p, q)
	if e != api.OK {
		return wrong(2, at, e)
	}
	if _, at, e := ssa.Check(p, c); e != api.OK {
		return wrong(2, at, e)
	}
	flows, _ := sinks.Flows(p, c)
	releases, _ := audit.Releases(p, c)
	kind := verdict.VReject
	if sinks.Accepts(p, c) {
		kind = verdict.VAccept
	}
	return verdict.Verdict{Kind: kind, Flows: flows, Audit: releases}, p
}

// place is a place's text.
func place(s string, at int) string {
	line, column := text.Place(s, at)
	return strconv.Itoa(line) + ":" + strconv.Itoa(column)
}

// written is the report that is to be of a verdict.
func written(v verdict.Verdict, p api.Policy, pol, prog string) string {
	in := map[uint8]string{1: "policy " + place(pol, v.At), 2: "program " + place(prog, v.At)}[v.In]
	switch v.Kind {
	case verdict.VMalformed:
		return "malformed " + in + " " + strconv.Itoa(int(v.Error)) + "\n"
	case verdict.VLimit:
		return "limit " + in + " " + strconv.Itoa(int(v.Error)) + "\n"
	}
	s := "reject\n"
	if v.Kind == verdict.VAccept {
		s = "accept\n"
	}
	words := strings.Fields("- output input store trap release argument call depth")
	for _, f := range v.Flows {
		s += "flow " + words[f.Kind] + " " + place(prog, f.At) + " " + p.Levels[f.From] + " " + p.Levels[f.Bound] + "\n"
	}
	for _, r := range v.Audit {
		s += "release " + place(prog, r.At) + " " + p.Levels[r.From] + " " + p.Levels[r.To] + "\n"
	}
	return s
}

// held holds what is said of two texts against the chapter, and tells the kind.
func held(t *testing.T, pol, prog string) uint8 {
	t.Helper()
	want, p := read(pol, prog)
	got := verdict.Check(pol, prog)
	if got.Kind != want.Kind || got.In != want.In || got.At != want.At || got.Error != want.Error || !slices.Equal(got.Flows, want.Flows) || !slices.Equal(got.Audit, want.Audit) {
		t.Fatalf("P23.1: Check(%q, %q) = %v, want %v", pol, prog, got, want)
	}
	if got, want := verdict.Report(pol, prog), written(want, p, pol, prog); got != want {
		t.Fatalf("P23.2: Report(%q, %q) = %q, want %q", pol, prog, got, want)
	}
	return got.Kind
}

// words are those that programs by chance are made of, in pieces that fit one another more or less.
func words() []string {
	return strings.Fields("k n k n αβγ x = input key = input net = const 0 = add k n = div k n = phi [ a : k , b : n ] = load t k = wrap t n = call f ( k ) = call main ( ) = release k low = release n high store t k n output net k output vault n jump a branch k a b return k } { ( ) a : b : fn f array t 1 low")
}

// writer writes texts by chance.
type writer struct{ *rand.Rand }

// between is what stands between two tokens.
func (w writer) between() string {
	return []string{" ", "  ", "\n", "\t", " # é ω\n", "\n\n ", " #\n"}[w.Intn(7)]
}

// program is one of straight functions, whose tokens stand apart in many ways.
func (w writer) program() string {
	var b strings.Builder
	write := func(s string) {
		for _, word := range strings.Fields(s) {
			b.WriteString(word + w.between())
		}
	}
	write("array t 4 low array u 4 high fn f ( k ) { a :")
	w.some(write, "f")
	write("return k } fn main ( ) { a : k = input " + []string{"key", "net"}[w.Intn(2)])
	w.some(write, "m")
	write("return k }")
	return b.String()
}

// some writes instructions, and within a fork some more.
func (w writer) some(write func(string), name string) {
	there := []string{"k"}
	any := func() string { return there[w.Intn(len(there))] }
	one := func(i int) {
		dst := name + "αγ"[:2*w.Intn(2)] + strconv.Itoa(i)
		switch x := w.Intn(9); x {
		case 0:
			write("output " + []string{"net ", "vault "}[w.Intn(2)] + any())
			return
		case 1:
			write("store " + []string{"t ", "u "}[w.Intn(2)] + any() + " " + any())
			return
		case 2:
			write(dst + " = release " + any() + []string{" low", " high"}[w.Intn(2)])
		case 3:
			write(dst + " = call f ( " + any() + " )")
		case 4:
			write(dst + " = div " + any() + " " + any())
		case 5:
			write(dst + " = input " + []string{"key", "net"}[w.Intn(2)])
		default:
			write(dst + " = const " + strconv.Itoa(x))
		}
		there = append(there, dst)
	}
	for i := range w.Intn(5) {
		one(i)
	}
	if w.Intn(2) == 0 {
		ahead := slices.Clone(there)
		write("branch " + any() + " b c b :")
		for i := range w.Intn(4) {
			one(10 + i)
		}
		write("jump c c :")
		there = ahead
	}
}

// spoilt is a text in which something is put, left out or put elsewhere.
func (w writer) spoilt(s string) string {
	from := w.Intn(len(s) + 1)
	to := from + w.Intn(min(12, len(s)-from)+1)
	switch w.Intn(6) {
	case 0:
		return s[:from] + s[to:]
	case 1:
		return s[:from] + string([]byte{byte(w.Intn(256))}) + s[from:]
	case 2:
		return s[:from] + s[from:to] + s[from:]
	case 3:
		return s[:from]
	case 4:
		all := words()
		return s[:from] + " " + all[w.Intn(len(all))] + " " + s[to:]
	}
	l := strings.Split(s, " ")
	i, k := w.Intn(len(l)), w.Intn(len(l))
	l[i], l[k] = l[k], l[i]
	return strings.Join(l, " ")
}

// TestByChance holds what is said of many texts, right ones and spoilt ones, against the chapter.
func TestByChance(t *testing.T) {
	w := writer{rand.New(rand.NewSource(5))}
	kinds := map[uint8]int{}
	for range 4000 {
		pol, prog := two, w.program()
		kinds[held(t, pol, prog)]++
		for range w.Intn(3) {
			prog = w.spoilt(prog)
		}
		if w.Intn(4) == 0 {
			pol = w.spoilt(pol)
		}
		kinds[held(t, pol, prog)]++
	}
	for range 4000 {
		var l []string
		for range w.Intn(20) {
			all := words()
			l = append(l, all[w.Intn(len(all))])
		}
		kinds[held(t, two, "fn main ( ) { a: k = input key n = input net "+strings.Join(l, " "))]++
	}
	for range 1000 {
		bytes := make([]byte, w.Intn(30))
		w.Read(bytes)
		kinds[held(t, string(bytes), two)]++
		kinds[held(t, two, string(bytes))]++
	}
	if kinds[verdict.VAccept] < 500 || kinds[verdict.VReject] < 500 || kinds[verdict.VMalformed] < 500 {
		t.Errorf("the test's own texts: %v", kinds)
	}
}

// TestAgain: what is said hangs on the texts alone.
func TestAgain(t *testing.T) {
	w := writer{rand.New(rand.NewSource(6))}
	var progs []string
	var said []verdict.Verdict
	var reports []string
	for range 200 {
		progs = append(progs, w.program())
		said = append(said, verdict.Check(two, progs[len(progs)-1]))
		reports = append(reports, verdict.Report(two, progs[len(progs)-1]))
	}
	for _, i := range w.Perm(len(progs)) {
		if v := verdict.Check(two, progs[i]); !reflect.DeepEqual(v, said[i]) || verdict.Report(two, progs[i]) != reports[i] {
			t.Fatalf("R5: Check of %q = %v, then %v", progs[i], said[i], v)
		}
	}
}
