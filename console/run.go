package console

import (
	"interdict/api"
	"interdict/interp"
	"interdict/names"
	"interdict/policy"
	"interdict/text"
	"interdict/tree"
	"interdict/verdict"
)

// study is what is known of two texts, as long as they stay as they are. A script may ask for it with each of its lines, and to find it out takes long.
type study struct {
	report string
	runs   bool // do they make what can be run? Then this is the policy and the code
	policy api.Policy
	code   api.Code
	place  func(at int) string // writes places of the program's text
}

// known is what is known of the texts: it is found out, if it is not kept.
func (c *console) known() *study {
	if c.kept == nil {
		c.kept = studied(c.pol, c.prog)
	}
	return c.kept
}

// studied is what there is to know of two texts.
func studied(pol, prog string) *study {
	s := &study{report: verdict.Report(pol, prog), place: places(prog)}
	switch verdict.Check(pol, prog).Kind {
	case verdict.VAccept, verdict.VReject:
		q, _, _ := tree.Parse(prog)
		s.runs = true
		s.policy, _, _ = policy.Parse(pol)
		s.code, _, _ = names.Resolve(s.policy, q)
	}
	return s
}

// places writes places in a text. Each is looked for once, since a loop may release at one place again and again.
func places(s string) func(at int) string {
	known := map[int][2]int{}
	return func(at int) string {
		place, is := known[at]
		if !is {
			place[0], place[1] = text.Place(s, at)
			known[at] = place
		}
		return text.Show(int64(place[0])) + ":" + text.Show(int64(place[1]))
	}
}

// run does a line that asks for a run.
func (c *console) run(l line) {
	l.count(1)
	fuel := read(l.words[0])
	s := c.known()
	if !s.runs {
		c.told.WriteString(s.report)
		return
	}
	// Beyond what a fuel may be one number is like another, and an int need not hold it.
	r, e := interp.Run(s.policy, s.code, c.inputs(s.policy), int(max(-1, min(fuel, api.MaxFuel+1))))
	if e != api.OK {
		panic(wrong{e})
	}
	for _, x := range r.Events {
		c.event(s, x)
	}
	c.tell("ended", number(r.Status), text.Show(int64(r.Steps)))
}

// event tells what a run has put out or released.
func (c *console) event(s *study, x api.Event) {
	value := text.Show(x.Value)
	if x.Kind == api.EOutput {
		c.tell("output", s.policy.Outs[x.Ref].Name, value)
		return
	}
	c.tell("release", s.place(x.At), s.policy.Levels[x.Ref], value)
}
