package console_test

import (
	"math/rand"
	"regexp"
	"slices"
	"strconv"
	"strings"
	"testing"

	"interdict/api"
	"interdict/console"
	"interdict/interp"
	"interdict/names"
	"interdict/policy"
	"interdict/printer"
	"interdict/text"
	"interdict/tree"
	"interdict/verdict"
)

// shapes are what lines that are right look like, by their first word; what each says is in the groups.
var shapes = map[string]*regexp.Regexp{
	"policy":  regexp.MustCompile(`^[ \t]*policy(?:[ \t]([^\n]*))?$`),
	"program": regexp.MustCompile(`^[ \t]*program(?:[ \t]([^\n]*))?$`),
	"input":   regexp.MustCompile(`^[ \t]*input[ \t]+([^ \t]+)((?:[ \t]+(?:0|-?[1-9][0-9]*))*)[ \t]*$`),
	"check":   regexp.MustCompile(`^[ \t]*check[ \t]*$`),
	"print":   regexp.MustCompile(`^[ \t]*print[ \t]*$`),
	"run":     regexp.MustCompile(`^[ \t]*run[ \t]+(0|-?[1-9][0-9]*)[ \t]*$`),
	"clear":   regexp.MustCompile(`^[ \t]*clear[ \t]*$`),
}

// idle is what lines look like that do nothing.
var idle = regexp.MustCompile(`^[ \t]*(#.*)?$`)

// said tells which word's line it is, and what it says; the empty word, if it is wrong. Scripts by chance have no numbers that are none for their size.
func said(line string) (string, []string) {
	for word, shape := range shapes {
		if groups := shape.FindStringSubmatch(line); groups != nil && (word != "input" || text.Name(groups[1])) {
			return word, groups[1:]
		}
	}
	return "", nil
}

// read is what a script is to tell, by the chapter's words: each line is done by what stands in those ahead of it, and nothing is kept.
func read(script string) string {
	lines, told := strings.Split(script, "\n"), ""
	for i, line := range lines {
		if idle.MatchString(line) {
			continue
		}
		word, says := said(line)
		pol, prog, given := before(lines[:i])
		switch word {
		case "":
			told += "error 8\n"
		case "check":
			told += verdict.Report(pol, prog)
		case "print":
			told += form(prog)
		case "run":
			fuel, _ := strconv.Atoi(says[0])
			told += ran(pol, prog, given, fuel)
		}
	}
	return told
}

// before tells what the texts and the inputs are behind some lines.
func before(lines []string) (pol, prog string, given map[string][]int64) {
	given = map[string][]int64{}
	for _, line := range lines {
		if idle.MatchString(line) {
			continue
		}
		switch word, says := said(line); word {
		case "policy":
			pol += says[0] + "\n"
		case "program":
			prog += says[0] + "\n"
		case "input":
			given[says[0]] = nil
			for _, s := range strings.Fields(says[1]) {
				n, _ := strconv.ParseInt(s, 10, 64)
				given[says[0]] = append(given[says[0]], n)
			}
		case "clear":
			pol, prog, given = "", "", map[string][]int64{}
		}
	}
	return pol, prog, given
}

// form is what print is to tell.
func form(prog string) string {
	q, _, e := tree.Parse(prog)
	s := ""
	if e == api.OK {
		s, e = printer.Print(q)
	}
	if e != api.OK {
		return "error " + strconv.Itoa(int(e)) + "\n"
	}
	return s
}

// ran is what run is to tell.
func ran(pol, prog string, given map[string][]int64, fuel int) string {
	if kind := verdict.Check(pol, prog).Kind; kind == verdict.VMalformed || kind == verdict.VLimit {
		return verdict.Report(pol, prog)
	}
	p, _, _ := policy.Parse(pol)
	q, _, _ := tree.Parse(prog)
	c, _, _ := names.Resolve(p, q)
	inputs := make([][]int64, len(p.Ins))
	for i, channel := range p.Ins {
		inputs[i] = given[channel.Name]
		delete(given, channel.Name)
	}
	if len(given) > 0 {
		return "error 10\n"
	}
	r, e := interp.Run(p, c, inputs, fuel)
	if e != api.OK {
		return "error 1\n"
	}
	s := ""
	for _, x := range r.Events {
		value := " " + strconv.FormatInt(x.Value, 10) + "\n"
		if x.Kind == api.EOutput {
			s += "output " + p.Outs[x.Ref].Name + value
			continue
		}
		line, column := text.Place(prog, x.At)
		s += "release " + strconv.Itoa(line) + ":" + strconv.Itoa(column) + " " + p.Levels[x.Ref] + value
	}
	return s + "ended " + strconv.Itoa(int(r.Status)) + " " + strconv.Itoa(r.Steps) + "\n"
}

// pieces are lines of which scripts by chance are made, some of several lines.
var pieces = []string{
	two, strings.TrimSuffix(two, "\n"), "policy level low\npolicy depth 2\npolicy input net low\npolicy output net low", "policy", "policy level mid", "policy what", "policy input more low", "policy\tflow low high ",
	"program fn main() { a: n = input net output net n return n }",
	"program fn main() {\nprogram a: k = input key\nprogram x = release k low # é\nprogram output net x return x }",
	"program fn main() { a: k = input key output net k return k }",
	"program fn main() { a: n = input net jump b b: x = release n low i = phi [a: n, b: d] o = const 1 d = sub i o branch i b c c: return n }",
	"program array t 2 low fn main() { α: n = input net i = wrap t n v = load t i x = div n i output net x return v }",
	"program", "program array u 1 low", "program fn f() { a: x = const 1 return x }", "program # é", "program é", "program fn", "program \tarray  α 3 high # ", " \tprogram   fn g(a){b:return a}",
	"input net 4 5", "input net 0", "input net -3 3", "input net", "input key 7 7", " input\tkey -1 ", "input nope 1", "input nope", "input add", "input more 3", "input é 3", "input", "input net x", "input net 04",
	"check", "check", "check", " \tcheck ", "check it", "print", "print", "\tprint", "print 1", "run 5", "run 50", "run 50", "run 50", "run  200 ", "run 0", "run -1", "run 1048577", "run", "run x", "run 5 5", "run 05",
	"clear", " clear", "clear it", "", " ", "\t", "# check", "  #", "what", "checks", "policy# x", "α",
}

// script is some lines by chance.
func script(r *rand.Rand) string {
	var l []string
	if r.Intn(3) > 0 {
		l = append(l, pieces[0]+pieces[8+r.Intn(5)])
		if r.Intn(2) > 0 {
			l = append(l, "input net 4 0 1\ninput key 2", "run 50")
		}
	}
	for range r.Intn(12) {
		l = append(l, pieces[r.Intn(len(pieces))])
	}
	return strings.Join(l, "\n")
}

// TestByChance holds what many scripts tell against the chapter.
func TestByChance(t *testing.T) {
	r := rand.New(rand.NewSource(7))
	counts := map[string]int{}
	for range 12000 {
		s := script(r)
		want := read(s)
		if got, e := console.Run(s); e != api.OK || got != want {
			t.Fatalf("P25.1: Run(%q) = %q, %d, want %q", s, got, e, want)
		}
		for _, line := range strings.Split(want, "\n") {
			counts[strings.Split(line, " ")[0]]++
			if strings.HasPrefix(line, "error") {
				counts[line]++
			}
		}
	}
	for _, word := range []string{"accept", "reject", "malformed", "flow", "release", "output", "ended", "fn", "error 1", "error 6", "error 7", "error 8", "error 10"} {
		if counts[word] < 100 {
			t.Errorf("the test's own scripts tell %q %d times", word, counts[word])
		}
	}
}

// TestFollows: lines that do nothing change nothing; a script behind clear tells what it tells alone.
func TestFollows(t *testing.T) {
	r := rand.New(rand.NewSource(8))
	for range 3000 {
		a, b := script(r), script(r)
		first, second := run(t, a), run(t, b)
		if got := run(t, a+"\nclear\n"+b); got != first+second {
			t.Fatalf("P25.2: %q, clear, %q tells %q, want %q and %q", a, b, got, first, second)
		}
		lines := strings.Split(a, "\n")
		for range r.Intn(5) {
			lines = slices.Insert(lines, r.Intn(len(lines)+1), []string{"", "  ", "\t", "# clear", "#", " \t#α"}[r.Intn(6)])
		}
		if got := run(t, strings.Join(lines, "\n")); got != first {
			t.Fatalf("P25.2: %q tells %q, want %q", lines, got, first)
		}
	}
}
