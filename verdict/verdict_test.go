package verdict_test

import (
	"reflect"
	"strconv"
	"strings"
	"testing"
	"time"

	"interdict/api"
	"interdict/verdict"
)

// two has a level above another one; four has two beside one another between the top and the bottom.
const (
	two  = "level low\nlevel high\nflow low high\ninput key high\ninput net low\noutput net low\noutput vault high\ndepth 8"
	four = "level left\nlevel top\nlevel bot\nlevel right\nflow bot left\nflow bot right\nflow left top\nflow right top\n" +
		"input it top\ninput il left\ninput ib bot\ninput ir right\noutput ot top\noutput ol left\noutput ob bot\noutput outr right\ndepth 3"
)

// repeated is a text made of others, each made of a number.
func repeated(n int, one func(i int) string) string {
	var b strings.Builder
	for i := range n {
		b.WriteString(one(i))
	}
	return b.String()
}

// numbered is a text with a number behind it.
func numbered(s string, i int) string { return s + strconv.Itoa(i) }

// TestWhole are the ten examples of the whole, and the chapter's.
func TestWhole(t *testing.T) {
	for _, c := range []struct{ prog, want string }{
		{"fn main() { a: k = input key output vault k return k }", "accept\n"},
		{"fn main() { a: k = input key output net k return k }", "reject\nflow output 1:30 high low\n"},
		{"fn main() { a: k = input key x = release k low output net x return x }", "accept\nrelease 1:30 high low\n"},
		{"fn main() { a: k = input key branch k b c b: n = input net jump c c: return k }", "reject\nflow input 1:46 high low\n"},
		{"fn main() { a: k = input key branch k b c b: output vault k jump c c: return k }", "accept\n"},
		{"fn main() { a: k = input key o = const 1 x = div o k output vault x return x }", "reject\nflow trap 1:42 high low\n"},
		{"array t 2 low fn main() { a: k = input key i = wrap t k v = load t i output vault v return k }", "accept\n"},
		{"array t 2 low fn main() { a: k = input key i = wrap t k v = load t k output vault v return k }", "reject\nflow trap 1:57 high low\n"},
		{"fn f(a) { x: output net a return a } fn main() { a: k = input net x = call f(k) return x }", "accept\n"},
		{"fn f(a) { x: output net a return a } fn main() { a: k = input key x = call f(k) return x }", "reject\nflow argument 1:67 high low\n"},
		{"fn f() { a: x = call f() return x } fn main() { a: x = call f() return x }", "accept\n"},
		{"fn main() { a: return x }", "malformed program 1:16 10\n"},
	} {
		if got := verdict.Report(two, c.prog); got != c.want {
			t.Errorf("P23.2: Report of %q = %q, want %q", c.prog, got, c.want)
		}
	}
	if got := verdict.Report("", "fn"); got != "malformed policy 1:1 4\n" {
		t.Errorf("P23.2: Report of an empty policy = %q", got)
	}
}

func TestReport(t *testing.T) {
	for _, c := range []struct{ pol, prog, want string }{
		// Each kind of flow has its word; several of one instruction stand in the sinks' order.
		{two, "array t 2 low fn main() { a: k = input key z = const 0 store t z k return k }", "reject\nflow store 1:56 high low\n"},
		{two, "array t 2 low fn main() { a: k = input key store t k k return k }", "reject\nflow store 1:44 high low\nflow trap 1:44 high low\n"},
		{two, "fn main() { a: k = input key branch k b c b: x = release k low jump c c: return k }", "reject\nflow release 1:46 high low\nrelease 1:46 high low\n"},
		{two, "fn f() { b: x = const 1 output net x return x } fn main() { a: k = input key branch k b c b: x = call f() jump c c: return k }", "reject\nflow call 1:94 high low\n"},
		{two, "fn f() { a: k = input key branch k b c b: x = call f() jump c c: return k } fn main() { a: x = call f() return x }", "reject\nflow call 1:43 high low\nflow depth 1:43 high low\n"},
		// A line for each flow, even where one line is like another.
		{two, "fn f(n, k) { a: output net n output net k return k } fn main() { a: k = input key x = call f(k, k) return k }", "reject\nflow argument 1:83 high low\nflow argument 1:83 high low\n"},
		// Flows stand ahead of releases, by function, block, instruction; what does not count is not told.
		{two, "fn f() { a: k = input key x = release k low output net k return x } fn main() { a: x = call f() k = input key y = release k high output net y return x } fn g() { a: k = input key x = release k low output net k return k }",
			"reject\nflow output 1:45 high low\nflow output 1:130 high low\nrelease 1:27 high low\nrelease 1:111 high high\n"},
		// Places have lines, and columns in runes, whatever stands between.
		{two, "fn f(n, k) { a: output net n output net k return k } fn main() {\n\n a: α = input key # é\n\n\tω = const 1 ω1 = call f(ω, α) ω2 = call f(α, α) return α }",
			"reject\nflow argument 5:14 high low\nflow argument 5:32 high low\nflow argument 5:32 high low\n"},
		{two, "fn main() {\na:\n  αβ = input key # αβγ\n  output net αβ αβγ = input key output net αβ\n  output net αβγ\n  return αβ\n}\n",
			"reject\nflow output 4:3 high low\nflow output 4:33 high low\nflow output 5:3 high low\n"},
		{two, "# é\n\n\n", "malformed program 1:1 14\n"},
		// Levels by their names: from which, to which.
		{four, "fn main() { a: x = input it y = input il output ol x output outr y output ob y z = add y y w = release z right v = release x left return v }",
			"reject\nflow output 1:42 top left\nflow output 1:54 left right\nflow output 1:68 left bot\nrelease 1:92 left right\nrelease 1:112 top left\n"},
		{four, "fn f(k, l) { a: output ol k output outr l x = release k bot return x } fn main() { a: x = input ir y = input il z = call f(x, y) return z }",
			"reject\nflow argument 1:113 right left\nflow argument 1:113 left right\nrelease 1:43 right bot\n"},
		{"level α1\ndepth 1", "fn main() { a: x = const 1 y = release x α1 return y }", "accept\nrelease 1:28 α1 α1\n"},
	} {
		if got := verdict.Report(c.pol, c.prog); got != c.want {
			t.Errorf("P23.2: Report of %q = %q, want %q", c.prog, got, c.want)
		}
	}
}

// TestWrong tells what is wrong, each error at its place; the same of both texts.
func TestWrong(t *testing.T) {
	const right = "fn main() { a: x = const 1 return x }"
	for _, c := range []struct {
		pol, prog string
		in        uint8
		at        int
		e         api.Errno
		place     string
	}{
		// The policy's errors, whatever the program is.
		{"", "", 1, 0, api.ErrNone, "1:1"},
		{"level low", "?", 1, 9, api.ErrNone, "1:10"},
		{"depth 8\n", right, 1, 8, api.ErrNone, "2:1"},
		{"level low\n\t what low\ndepth 8", right, 1, 12, api.ErrLine, "2:3"},
		{"level low\nlevel low\ndepth 8", right, 1, 10, api.ErrTwice, "2:1"},
		{"level α\n \tflow α β\ndepth 8", right, 1, 11, api.ErrName, "2:3"},
		{"level low\ndepth 65", right, 1, 10, api.ErrNumber, "2:1"},
		{"level a\nlevel b\ndepth 1", right, 1, 23, api.ErrOrder, "3:8"},
		{"# αβ\n#\xffé", right, 1, 8, api.ErrText, "2:2"},
		{"level \xce\n", "\xff", 1, 6, api.ErrText, "1:7"},
		// Then the program's: its tokens, its grammar, its names, its values.
		{two, "fn main() {\n# é\xc3", 2, 16, api.ErrText, "2:4"},
		{two, "fn main() {\n # é\n a-b", 2, 20, api.ErrToken, "3:3"},
		{two, "fn main() { }", 2, 12, api.ErrSyntax, "1:13"},
		{two, "fn main() { a:\n", 2, 15, api.ErrSyntax, "2:1"},
		{two, "array t 0 low", 2, 8, api.ErrNumber, "1:9"},
		{two, "array t 257 low " + right, 2, 8, api.ErrNumber, "1:9"},
		{two, "", 2, 0, api.ErrMain, "1:1"},
		{two, "\n fn f() { a: x = const 1 return x }", 2, 0, api.ErrMain, "1:1"},
		{two, "fn main(x) { a: return x }", 2, 0, api.ErrMain, "1:1"},
		{two, "array t 1 low\narray t 1 low " + right, 2, 14, api.ErrTwice, "2:1"},
		{two, "array t 1 mid\n" + right, 2, 0, api.ErrName, "1:1"},
		{two, right + "\nfn main() { a: x = const 1 return x }", 2, 38, api.ErrTwice, "2:1"},
		{two, "fn main() { a: x = const 1 x = const 1 return x }", 2, 27, api.ErrTwice, "1:28"},
		{two, "fn main() { a: x = const 1 }", 2, 12, api.ErrEnd, "1:13"},
		{two, "fn main() { a: x = const 1 return x return x }", 2, 27, api.ErrEnd, "1:28"},
		{two, "fn main() { a: x = const 1 jump b b: y = const 1 z = phi [a: x] return x }", 2, 49, api.ErrPhi, "1:50"},
		{two, "fn main() { a: x = input net y = input vault return x }", 2, 29, api.ErrName, "1:30"},
		{two, "fn main() { a: x = input net output key x return x }", 2, 29, api.ErrName, "1:30"},
		{two, "fn main() { a: x = const 1 y = call main(x) return x }", 2, 27, api.ErrCount, "1:28"},
		{two, "fn main() { a: x = const 0 return x b: return x }", 2, 39, api.ErrReach, "1:40"},
		{two, "fn main() {\na: jump a }", 2, 15, api.ErrExit, "2:4"},
		{two, "fn main() { a: x = const 0 branch x a b b: return x }", 2, 15, api.ErrPhi, "1:16"},
		{two, "fn main() { a: x = const 0 jump b b: z = phi [b: x] return z }", 2, 37, api.ErrPhi, "1:38"},
		{two, "fn main() { a: α = const 0\nω = add α β\nβ = const 1 return ω }", 2, 28, api.ErrUse, "2:1"},
		{two, right + " fn f(x) {\n\n b: y = add x z\n z = const 1 return x }", 2, 53, api.ErrUse, "3:5"},
	} {
		want := verdict.Verdict{Kind: verdict.VMalformed, In: c.in, At: c.at, Error: c.e}
		if got := verdict.Check(c.pol, c.prog); !reflect.DeepEqual(got, want) {
			t.Errorf("P23.1: Check(%q, %q) = %v, want %v", c.pol, c.prog, got, want)
		}
		report := "malformed " + []string{"", "policy ", "program "}[c.in] + c.place + " " + strconv.Itoa(int(c.e)) + "\n"
		if got := verdict.Report(c.pol, c.prog); got != report {
			t.Errorf("P23.2: Report(%q, %q) = %q, want %q", c.pol, c.prog, got, report)
		}
	}
}

// TestLimits holds, of each thing of which there may be so many, the greatest number against one more.
func TestLimits(t *testing.T) {
	const right = "fn main() { a: x = const 1 return x }"
	level := func(i int) string { return numbered("level l", i) + "\n" }
	flow := func(i int) string { return numbered("flow l", i) + numbered(" l", i+1) + "\n" }
	input := func(i int) string { return numbered("input c", i) + " l0\n" }
	output := func(i int) string { return numbered("output c", i) + " l0\n" }
	array := func(i int) string { return numbered("array t", i) + " 1 low\n" }
	fn := func(i int) string { return numbered("fn f", i) + "() { a: x = const 1 return x }\n" }
	block := func(i int) string { return numbered("b", i) + ": " + numbered("jump b", i+1) + "\n" }
	value := func(i int) string { return numbered("v", i) + " = const 1\n" }
	pads := func(s string, n int) string { return s + strings.Repeat(" ", n-len(s)) }
	for _, c := range []struct {
		what      string
		pol, prog string
		in        uint8 // 0: nothing is wrong
		at        int
		e         api.Errno
		place     string
	}{
		{"64 levels", repeated(64, level) + repeated(63, flow) + "depth 64", "array t 1 l63 " + right, 0, 0, 0, ""},
		{"65 levels", repeated(65, level), "", 1, 630, api.ErrFull, "65:1"},
		{"32 inputs, 32 outputs", level(0) + repeated(32, input) + repeated(32, output) + "depth 1", right, 0, 0, 0, ""},
		{"33 inputs", level(0) + repeated(33, input), "", 1, 9 + 10*12 + 22*13, api.ErrFull, "34:1"},
		{"33 outputs", level(0) + repeated(33, output), "", 1, 9 + 10*13 + 22*14, api.ErrFull, "34:1"},
		{"a policy of 65536 bytes", pads(two+"\n", api.MaxText), right, 0, 0, 0, ""},
		{"a policy of 65537 bytes", pads(two+"\n", api.MaxText+1), right, 1, 0, api.ErrLong, "1:1"},
		{"a long policy that is no text", strings.Repeat("\xff", api.MaxText+1), right, 1, 0, api.ErrLong, "1:1"},
		{"16 arrays", two, repeated(16, array) + right, 0, 0, 0, ""},
		{"17 arrays", two, repeated(17, array) + right, 2, 10*15 + 6*16, api.ErrFull, "17:1"},
		{"64 functions", two, repeated(63, fn) + right, 0, 0, 0, ""},
		{"65 functions", two, repeated(65, fn), 2, 10*len(fn(0)) + 54*len(fn(10)), api.ErrFull, "65:1"},
		{"6 parameters", two, right + "fn f(a, b, c, d, e, g) { x: y = call f(a, a, a, a, a, a) return a }", 0, 0, 0, ""},
		{"7 parameters", two, right + "fn f(a, b, c, d, e, g, h) { x: return a }", 2, len(right) + 23, api.ErrFull, "1:61"},
		{"7 arguments", two, "fn main() { a: x = call main(x, x, x, x, x, x, x) return x }", 2, 47, api.ErrFull, "1:48"},
		{"64 blocks", two, "fn main() {\n" + repeated(63, block) + "b63: x = const 1 return x }", 0, 0, 0, ""},
		{"65 blocks", two, "fn main() {\n" + repeated(65, block), 2, 12 + len(repeated(64, block)), api.ErrFull, "66:1"},
		{"4096 instructions", two, "fn main() { a:\n" + repeated(4095, value) + "return v0 }", 0, 0, 0, ""},
		{"4097 instructions", two, "fn main() { a:\n" + repeated(4096, value) + "return v0 }", 2, 15 + len(repeated(4096, value)), api.ErrFull, "4098:1"},
		{"a program of 65536 bytes", two, pads(right, api.MaxText), 0, 0, 0, ""},
		{"a program of 65537 bytes", two, pads(right, api.MaxText+1), 2, 0, api.ErrLong, "1:1"},
		{"a long program that is no text", two, strings.Repeat("\xff", api.MaxText+1), 2, 0, api.ErrLong, "1:1"},
		{"a policy and a program that are too long", pads("", 2*api.MaxText), pads("", 2*api.MaxText), 1, 0, api.ErrLong, "1:1"},
	} {
		want, report := verdict.Verdict{Kind: verdict.VAccept}, "accept\n"
		if c.in > 0 {
			want = verdict.Verdict{Kind: verdict.VLimit, In: c.in, At: c.at, Error: c.e}
			report = "limit " + []string{"", "policy ", "program "}[c.in] + c.place + " " + strconv.Itoa(int(c.e)) + "\n"
		}
		got := verdict.Check(c.pol, c.prog)
		if len(got.Flows) == 0 && len(got.Audit) == 0 {
			got.Flows, got.Audit = nil, nil
		}
		if !reflect.DeepEqual(got, want) {
			t.Errorf("P23.1: Check of %s = %v, want %v", c.what, got, want)
		}
		if got := verdict.Report(c.pol, c.prog); got != report {
			t.Errorf("P23.2: Report of %s = %q, want %q", c.what, got, report)
		}
	}
}

// TestCheck holds the flows and the releases of a verdict, and that nothing else is told.
func TestCheck(t *testing.T) {
	if verdict.VAccept != 1 || verdict.VReject != 2 || verdict.VMalformed != 3 || verdict.VLimit != 4 {
		t.Errorf("P23.1: the kinds are %d, %d, %d, %d", verdict.VAccept, verdict.VReject, verdict.VMalformed, verdict.VLimit)
	}
	s := "fn f(n, k) { a: output net k x = release k low return x } fn main() { a: k = input key x = call f(k, k) return k }"
	call := strings.Index(s, "x = call")
	want := verdict.Verdict{
		Kind:  verdict.VReject,
		Flows: []api.Flow{{Kind: api.SArg, Fn: 1, At: call, Arg: 1, From: 1}},
		Audit: []api.Release{{At: 29, From: 1}},
	}
	got := verdict.Check(two, s)
	if !reflect.DeepEqual(got, want) {
		t.Errorf("P23.1: Check of %q = %v, want %v", s, got, want)
	}
	// What is handed out is not shared.
	for i := range got.Flows[:cap(got.Flows)] {
		got.Flows[:cap(got.Flows)][i] = api.Flow{Kind: 99}
	}
	for i := range got.Audit[:cap(got.Audit)] {
		got.Audit[:cap(got.Audit)][i] = api.Release{Fn: 99}
	}
	if again := verdict.Check(two, s); !reflect.DeepEqual(again, want) {
		t.Errorf("R4, R5: Check is then %v", again)
	}
	// Accepted, with releases.
	s = "fn main() { a: k = input key x = release k low output net x return x }"
	got = verdict.Check(two, s)
	if len(got.Flows) == 0 {
		got.Flows = nil
	}
	if want := (verdict.Verdict{Kind: verdict.VAccept, Audit: []api.Release{{At: 29, From: 1}}}); !reflect.DeepEqual(got, want) {
		t.Errorf("P23.1: Check of %q = %v, want %v", s, got, want)
	}
}

// TestGreatest: of the greatest programs, with the most flows, a report does not take long.
func TestGreatest(t *testing.T) {
	head := "fn f(a,b,c,d,e,g){a:output net a output net b output net c output net d output net e output net g return a}fn main(){a:i=input key branch i b c b:"
	call := func(i int) string { return "v" + strconv.FormatInt(int64(i), 36) + "=call f(i,i,i,i,i,i)" }
	calls, n := "", 0
	for ; len(head)+len(calls) < api.MaxText-50; n++ {
		calls += call(n)
	}
	began := time.Now()
	report := verdict.Report(two, head+calls+"jump c c:return i}")
	took := time.Since(began)
	if lines := strings.Count(report, "\n"); lines != 1+7*n {
		t.Errorf("P23.2: a report has %d lines, want %d", lines, 1+7*n)
	}
	last := "flow call 1:" + strconv.Itoa(1+len(head)+len(calls)-len(call(n-1))) + " high low\n"
	if !strings.HasSuffix(report, last) {
		t.Errorf("P23.2: a report ends with %q, want %q", report[len(report)-40:], last)
	}
	if took > 10*time.Second {
		t.Errorf("a report took %v", took)
	}
}
