package console_test

import (
	"strconv"
	"strings"
	"testing"
	"time"

	"interdict/api"
	"interdict/console"
)

// two is lines that type a policy which has a level above another one.
const two = "policy level low\npolicy level high\npolicy flow low high\npolicy input key high\npolicy input net low\npolicy output net low\npolicy output vault high\npolicy depth 3\n"

// run does a script that may be, and tells what it tells.
func run(t *testing.T, script string) string {
	t.Helper()
	s, e := console.Run(script)
	if e != api.OK {
		t.Fatalf("P25.1: Run(%q) = %d", script, e)
	}
	return s
}

// TestExamples are the chapter's.
func TestExamples(t *testing.T) {
	for _, c := range []struct{ script, want string }{
		{"input", "error 8\n"},
		{"run x", "error 8\n"},
		{"runs 3", "error 8\n"},
		{"run 5", "malformed policy 1:1 4\n"},
		{"print", ""},
	} {
		if got := run(t, c.script); got != c.want {
			t.Errorf("P25.1: Run(%q) = %q, want %q", c.script, got, c.want)
		}
	}
}

func TestRefused(t *testing.T) {
	long := strings.Repeat("runs\n", api.MaxScript/5) + "x"
	if len(long) != api.MaxScript {
		t.Fatalf("the test's own script has %d bytes", len(long))
	}
	if s, e := console.Run(long); e != api.OK || s != strings.Repeat("error 8\n", api.MaxScript/5+1) {
		t.Errorf("P25.1: Run of %d bytes = %d bytes, %d", len(long), len(s), e)
	}
	for _, c := range []struct {
		script string
		e      api.Errno
	}{
		{long + " ", api.ErrLong},
		{long + "\xff", api.ErrLong},
		{strings.Repeat("\xff", api.MaxScript+1), api.ErrLong},
		{strings.Repeat("check\n", api.MaxScript), api.ErrLong},
		{strings.Repeat("\xff", api.MaxScript), api.ErrText},
		{"check\n# \xce", api.ErrText},
		{"policy \xed\xa0\x80\n", api.ErrText},
		{"\xc0\x80", api.ErrText},
	} {
		if s, e := console.Run(c.script); e != c.e || s != "" {
			t.Errorf("P25.1: Run of %d bytes = %q, %d, want %d", len(c.script), s, e, c.e)
		}
	}
}

// TestWrong: lines that are wrong tell so, and change nothing.
func TestWrong(t *testing.T) {
	typed := two + "program fn main() { a: n = input net output net n return n }\ninput net 4\n"
	const runs = "output net 4\nended 0 3\n"
	if got := run(t, typed+"run 9"); got != runs {
		t.Fatalf("P25.1: Run(%q) = %q, want %q", typed, got, runs)
	}
	for _, line := range []string{
		"what", "Check", "checks", "check.", "policyx level mid", "inputnet 5", "run5", "α", "7", "-", "check# ", "check\r",
		"input", "input ", "input 7", "input 7 7", "input né 7", "input -net 7", "input net x", "input net 5 x", "input net 5 07", "input net +5", "input net -0",
		"input net 5,6", "input net 9223372036854775808", "input net -9223372036854775809", "input net 5 # five", "input abcdefghijklmnopqrstuvwxy 5",
		"run", "run ", "run x", "run 9 9", "run 09", "run -0", "run +9", "run 9.", "run 9223372036854775808", "run net", "run 9 # nine",
		"check 1", "check check", "check # it", "print 1", "print x y", "clear 1", "clear clear", "clear # all",
	} {
		for _, line := range []string{line, " \t" + line, line + "\t "} {
			script := typed + line + "\nrun 9\nwhat"
			if got, want := run(t, script), "error 8\n"+runs+"error 8\n"; got != want {
				t.Errorf("P25.1: with the line %q a script tells %q, want %q", line, got, want)
			}
		}
	}
}

// TestNothing: lines that do nothing change nothing, wherever they stand.
func TestNothing(t *testing.T) {
	lines := strings.Split(two+"program fn main() { a: n = input net k = input key output net n x = release k low\ncheck\nprogram return n }\ninput net 4\ninput key -5 6\ncheck\nprint\nrun 9\nwhat\nrun 2\ninput q\nrun 5\nclear\ncheck\nrun 1", "\n")
	want := run(t, strings.Join(lines, "\n"))
	if n := strings.Count(want, "\n"); n < 15 {
		t.Fatalf("the test's own script tells %q", want)
	}
	for _, nothing := range []string{"", " ", "\t", " \t \t", "#", "# check", "#check", "  #\tcheck", "##", "#α clear"} {
		for i := range len(lines) + 1 {
			script := strings.Join(lines[:i], "\n") + "\n" + nothing + "\n" + strings.Join(lines[i:], "\n")
			if got := run(t, script); got != want {
				t.Errorf("P25.2: with %q ahead of the line %d a script tells %q, want %q", nothing, i, got, want)
			}
		}
	}
	if got := run(t, strings.Join(lines, "\n")+"\n"); got != want {
		t.Errorf("P25.1: with a byte 10 behind it a script tells %q, want %q", got, want)
	}
	if got := run(t, ""); got != "" {
		t.Errorf("P25.1: Run of an empty script = %q", got)
	}
}

// TestTexts: what a line adds to a text is all behind the byte that follows its first word.
func TestTexts(t *testing.T) {
	for _, c := range []struct{ script, want string }{
		// Blanks ahead of the first word are no part of it; the byte behind it, too; all others are.
		{"policy level a\npolicy depth 1\n \t program  ?", "malformed program 1:2 6\n"},
		{"policy level a\npolicy depth 1\nprogram\t?", "malformed program 1:1 6\n"},
		{"policy level a\npolicy depth 1\nprogram \t ?  ", "malformed program 1:3 6\n"},
		{"policy level a\npolicy depth 1\nprogram\nprogram \nprogram # ?\nprogram ?", "malformed program 4:1 6\n"},
		{"policy level a\npolicy depth 1\nprogram # program ?\nprogram program", "malformed program 2:1 7\n"},
		{"policy level a\npolicy depth 1\nprogram policy?", "malformed program 1:7 6\n"},
		{"policy level a\npolicy depth 1\nprogram αβ ?", "malformed program 1:4 6\n"},
		{"policy level a\npolicy depth 1\nprogram fn main() { a: x = const 1 return x", "malformed program 2:1 7\n"},
		{"policy level a\npolicy depth 1\nprogram", "malformed program 1:1 14\n"},
		// A word does not go on from line to line.
		{"policy level a\npolicy depth 1\nprogram fn main() { a: αβ = const 1 return α\nprogram β }", "malformed program 2:3 7\n"},
		// A policy's lines.
		{"policy\npolicy \npolicy\tlevel a\npolicy  \tdepth 1\nprogram fn main() { a: x = const 1 return x }", "accept\n"},
		{"policy level a\npolicy  what", "malformed policy 2:2 8\n"},
		{"policy level a", "malformed policy 2:1 4\n"},
		{"policy", "malformed policy 2:1 4\n"},
		{"policy policy", "malformed policy 1:1 8\n"},
		{"policy # level a", "malformed policy 2:1 4\n"},
		{"policy level a\npolicy level b\npolicy depth 1", "malformed policy 4:1 11\n"},
		{"policy level a\npolicy depth 1\r", "malformed policy 2:1 8\n"},
	} {
		if got := run(t, c.script+"\ncheck"); got != c.want {
			t.Errorf("P25.1: of %q check tells %q, want %q", c.script, got, c.want)
		}
		// A run tells the same, if the verdict is malformed.
		if strings.HasPrefix(c.want, "malformed") {
			if got := run(t, c.script+"\ninput nope\nrun -1"); got != c.want {
				t.Errorf("P25.1: of %q run tells %q, want %q", c.script, got, c.want)
			}
		}
	}
}

func TestCheck(t *testing.T) {
	for _, c := range []struct{ script, want string }{
		{"check", "malformed policy 1:1 4\n"},
		{two + "program fn main() { a: k = input key output net k return k }\ncheck", "reject\nflow output 1:30 high low\n"},
		{two + "program fn main() {\nprogram a: k = input key x = release k low output net k return k }\ncheck", "reject\nflow output 2:36 high low\nrelease 2:18 high low\n"},
		// Of texts that go on, each time of what there is.
		{"check\n" + two + "check\nprogram fn main() { a: k = input key\ncheck\nprogram return k }\ncheck\n check\t\nprogram fn\ncheck\npolicy level\ncheck",
			"malformed policy 1:1 4\nmalformed program 1:1 14\nmalformed program 2:1 7\naccept\naccept\nmalformed program 4:1 7\nmalformed policy 9:1 8\n"},
		// What an input has does not matter.
		{two + "input nope\nprogram fn main() { a: k = input key return k }\ncheck", "accept\n"},
	} {
		if got := run(t, c.script); got != c.want {
			t.Errorf("P25.1: Run(%q) = %q, want %q", c.script, got, c.want)
		}
	}
	// Beyond a limit.
	full := two + strings.Repeat("program array t 1 low\n", 17)
	if got, want := run(t, full+"check\nrun 5\nprint"), "limit program 17:1 3\nlimit program 17:1 3\nerror 3\n"; got != want {
		t.Errorf("P25.1: of 17 arrays a script tells %q, want %q", got, want)
	}
	var b strings.Builder
	for i := range 65 {
		b.WriteString("policy level l" + strconv.Itoa(i) + "\n")
	}
	if got, want := run(t, b.String()+"check\nrun 5"), "limit policy 65:1 3\nlimit policy 65:1 3\n"; got != want {
		t.Errorf("P25.1: of 65 levels a script tells %q, want %q", got, want)
	}
}

func TestPrint(t *testing.T) {
	for _, c := range []struct{ script, want string }{
		{"program fn main ( ) {a:x=const 7 y = call f(x,x)return y}\nprint", "fn main() {\na:\n  x = const 7\n  y = call f(x, x)\n  return y\n}\n"},
		{"program array t 3 low\nprogram # nothing\nprint\nprogram array u 1 high\nprint", "array t 3 low\narray t 3 low\narray u 1 high\n"},
		// It hangs on no policy, and on no names.
		{"policy what\nprogram fn f(){a:return x}\nprint\nprint", "fn f() {\na:\n  return x\n}\nfn f() {\na:\n  return x\n}\n"},
		// Layer 7's errors.
		{"program é\nprint", "error 6\n"},
		{"program fn\nprint\nprogram main() { a: return x }\nprint", "error 7\nfn main() {\na:\n  return x\n}\n"},
		{"program array t 0 low\nprint", "error 12\n"},
		{"program fn f(a,b,c,d,e,g,h)\nprint", "error 3\n"},
	} {
		if got := run(t, c.script); got != c.want {
			t.Errorf("P25.1: Run(%q) = %q, want %q", c.script, got, c.want)
		}
	}
	// Layer 8's: the text may not be too long, as what is typed may not.
	block := "program fn main(){a:" + strings.Repeat("x=const 7 ", 4090)
	if got := run(t, block+"}\nprint"); len(got) != 4090*14+17 || !strings.HasSuffix(got, "x = const 7\n}\n") {
		t.Errorf("P25.1: print of a long program tells %d bytes", len(got))
	}
	block = "program fn main(){a:" + strings.Repeat("xyzuvw=const 7 ", 4090)
	if got := run(t, block+"}\nprint\nwhat"); got != "error 2\nerror 8\n" {
		t.Errorf("P25.1: print of a program that is too long tells %d bytes, which begin with %q", len(got), got[:min(len(got), 40)])
	}
}

func TestRuns(t *testing.T) {
	const echo = two + "program fn main() { a: jump b b: k = input key n = input net output net n output vault k branch k b c c: x = release n high y = release k low return x }\n"
	const traps = two + "program array t 2 low fn main() { a: k = input key n = input net x = div n k store t n x return x }\n"
	for _, c := range []struct{ script, want string }{
		{echo + "input key 1 -2 0\ninput net 9223372036854775807 -9223372036854775808 0 5\nrun 100",
			"output net 9223372036854775807\noutput vault 1\noutput net -9223372036854775808\noutput vault -2\noutput net 0\noutput vault 0\nrelease 1:98 high 0\nrelease 1:117 low 0\nended 0 19\n"},
		// The fuel: none, some, as much as may be, and what may not be.
		{echo + "input key 0\ninput net 3\nrun 0\nrun 4\nrun 8\nrun 9\nrun 1048576",
			"ended 24 0\noutput net 3\nended 24 4\noutput net 3\noutput vault 0\nrelease 1:98 high 3\nrelease 1:117 low 0\nended 24 8\n" +
				strings.Repeat("output net 3\noutput vault 0\nrelease 1:98 high 3\nrelease 1:117 low 0\nended 0 9\n", 2)},
		{echo + "run -1\nrun 1048577\nrun 9223372036854775807\nrun -9223372036854775808\nrun 4294967296\nrun 4294967301", strings.Repeat("error 1\n", 6)},
		// How runs end.
		{traps + "run 9\ninput key 0\nrun 9\ninput net 3\nrun 9\ninput key 2\nrun 9\ninput net 1\nrun 9", "ended 23 0\nended 23 1\nended 20 2\nended 21 3\nended 0 5\n"},
		{two + "program fn f(n) { a: output net n x = call f(n) return x } fn main() { a: n = input net x = call f(n) return x }\ninput net 6\nrun 50", "output net 6\noutput net 6\nended 22 5\n"},
		// A name has the numbers of its last line, none of others.
		{echo + "input key 0 0\ninput net 1 2\ninput net 3\nrun 9\ninput net\nrun 9\n\tinput  net\t4 \nrun 9",
			"output net 3\noutput vault 0\nrelease 1:98 high 3\nrelease 1:117 low 0\nended 0 9\nended 23 2\noutput net 4\noutput vault 0\nrelease 1:98 high 4\nrelease 1:117 low 0\nended 0 9\n"},
		// Numbers are there anew for each run.
		{echo + "input key 1\ninput net 1\nrun 9\nrun 9", strings.Repeat("output net 1\noutput vault 1\nended 23 6\n", 2)},
		// Names that are no input of the policy: with numbers, without, one that can't be, an output's; it goes ahead of a fuel that may not be.
		{echo + "input nope 1\nrun 9", "error 10\n"},
		{echo + "input nope\nrun -1\ninput key 0\ninput net 3\nrun 2", "error 10\nerror 10\n"},
		{echo + "input add 1\nrun 9", "error 10\n"},
		{echo + "input vault\nrun 9", "error 10\n"},
		{echo + "input nope x\nrun 1", "error 8\nended 24 1\n"},
		{"input key 0\ninput net 7\n" + echo + "run 4", "output net 7\nended 24 4\n"},
		{"input later\n" + echo + "run 1\npolicy input later low\nrun 1", "error 10\nended 24 1\n"},
		// Not since the last clear.
		{"input nope\nclear\n" + echo + "run 1", "ended 24 1\n"},
		// What is rejected runs, too; what is malformed tells so, whatever else is wrong.
		{two + "program fn main() { a: k = input key output net k return k }\ninput key 5\ncheck\nrun 9", "reject\nflow output 1:30 high low\noutput net 5\nended 0 3\n"},
		{two + "input nope\nrun -1\nprogram fn main() { a: x = const 1 return x b: return x }\nrun -1", "malformed program 1:1 14\nmalformed program 1:40 16\n"},
		// The texts may go on between runs.
		{two + "program fn main() { a: n = const 1\nprogram output net n\nrun 9\nprogram return n }\nrun 9\nprogram array t 1 low\nrun 9\nprogram array t 1 low\nrun 9",
			"malformed program 3:1 7\noutput net 1\nended 0 3\noutput net 1\nended 0 3\nmalformed program 5:1 9\n"},
		{"policy level a\npolicy depth 1\nprogram fn main() { a: x = const 8 y = release x a return y }\nrun 9\npolicy level b\nrun 9\npolicy flow b a\nrun 9", "release 1:28 a 8\nended 0 3\nmalformed policy 4:1 11\nrelease 1:28 a 8\nended 0 3\n"},
		// Places are those of reports.
		{two + "program fn f(α) {\nprogram # é\nprogram \ta: ω = release α low return ω }\nprogram fn main() { a: α = const 8 x = call f(α)\nprogram\nprogram  y = release x high x1 = call f(y) return x }\ncheck\nrun 50",
			"accept\nrelease 3:5 high low\nrelease 6:2 low high\nrelease 3:5 low 8\nrelease 6:2 high 8\nrelease 3:5 low 8\nended 0 9\n"},
	} {
		if got := run(t, c.script); got != c.want {
			t.Errorf("P25.1: Run(%q) = %q, want %q", c.script, got, c.want)
		}
	}
}

// TestMost: an input may have 4096 numbers; if it has more, there is no run.
func TestMost(t *testing.T) {
	program := two + "program fn main() { a: n = input net return n }\n"
	numbers := "input net" + strings.Repeat(" 1", api.MaxInput)
	if got := run(t, program+numbers+"\nrun 9\n"+numbers+" 1\nrun 9\ncheck\ninput nope\nrun 9"); got != "ended 0 2\nerror 1\naccept\nerror 10\n" {
		t.Errorf("P25.1: with 4096 and 4097 numbers a script tells %q", got)
	}
}

// TestClear: a script behind clear tells what it tells alone.
func TestClear(t *testing.T) {
	scripts := []string{
		"", "check", "print", "run 5", "what", "input nope", "input key 1\nrun 9", "policy level", "program fn",
		two, two + "check", two + "input key 5\ninput net 6\nprogram fn main() { a: n = input key output vault n return n }\ncheck\nprint\nrun 9", two + "program fn main() { a: n = input key return n }\nrun 9",
	}
	for _, ahead := range scripts {
		for _, behind := range scripts {
			script := ahead + "\n clear\t\n" + behind
			if got, want := run(t, script), run(t, ahead)+run(t, behind); got != want {
				t.Errorf("P25.2: Run(%q) = %q, want %q", script, got, want)
			}
		}
	}
}

// TestLong: a script that asks again and again does not take long, neither does a run that tells much.
func TestLong(t *testing.T) {
	began := time.Now()
	script := two + "program fn main() { a:\n"
	for i := range 1000 {
		script += "program v" + strconv.Itoa(i) + " = input key\n"
	}
	script += "program return v0 }\n"
	asked := strings.Repeat("check\n", (api.MaxScript-len(script))/6)
	if got := run(t, script+asked); got != strings.Repeat("accept\n", len(asked)/6) {
		t.Errorf("P25.1: a long script tells %d bytes", len(got))
	}
	remark := "program # " + strings.Repeat("α", 20000) + "\n"
	got := run(t, two+remark+"program fn main() { a: x = const 7 jump b b: y = release x low branch x b c c: return x }\nrun 1048576")
	if n := strings.Count(got, "release 2:38 low 7\n"); n != 524287 || !strings.HasSuffix(got, "\nended 24 1048576\n") {
		t.Errorf("P25.1: a long run tells %d releases, and ends with %q", n, got[max(0, len(got)-40):])
	}
	if took := time.Since(began); took > 20*time.Second {
		t.Errorf("long scripts took %v", took)
	}
}
