package verdict

import (
	"strings"

	"interdict/api"
	"interdict/text"
)

// kinds are the words for the kinds of flows.
var kinds = [...]string{
	api.SOutput:  "output",
	api.SInput:   "input",
	api.SStore:   "store",
	api.STrap:    "trap",
	api.SRelease: "release",
	api.SArg:     "argument",
	api.SCall:    "call",
	api.SDepth:   "depth",
}

// Report writes a verdict.
func Report(pol, prog string) string {
	v, p := judge(pol, prog)
	var b strings.Builder
	line := func(words ...string) { b.WriteString(strings.Join(words, " ") + "\n") }
	if v.Error != api.OK {
		line(wrong(v, pol, prog)...)
		return b.String()
	}
	place := placer(prog)
	if v.Kind == VAccept {
		line("accept")
	} else {
		line("reject")
	}
	for _, f := range v.Flows {
		line("flow", kinds[f.Kind], place(f.At), p.Levels[f.From], p.Levels[f.Bound])
	}
	for _, r := range v.Audit {
		line("release", place(r.At), p.Levels[r.From], p.Levels[r.To])
	}
	return b.String()
}

// wrong is the words of a verdict on something that is wrong.
func wrong(v Verdict, pol, prog string) []string {
	kind, in, s := "malformed", "policy", pol
	if v.Kind == VLimit {
		kind = "limit"
	}
	if v.In == inProgram {
		in, s = "program", prog
	}
	return []string{kind, in, placer(s)(v.At), text.Show(int64(v.Error))}
}

// placer writes places in a text. It goes on from the place that it wrote last: what is told of a program stands mostly in its order, and is so much that the text can't be gone over from its beginning for each.
func placer(s string) func(at int) string {
	from, line, column := 0, 1, 1
	return func(at int) string {
		if at < from {
			from, line, column = 0, 1, 1
		}
		lines, columns := text.Place(s[from:], at-from)
		if lines == 1 {
			columns += column - 1
		}
		from, line, column = at, line+lines-1, columns
		return text.Show(int64(line)) + ":" + text.Show(int64(column))
	}
}
