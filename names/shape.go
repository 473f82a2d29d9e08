package names

import "interdict/api"

// thing is a kind of what is named, and so has a number.
type thing uint8

const (
	none thing = iota // what is not named: its one name is the empty text, its one number 0
	array
	function
	input
	output
	level
	block
	value
	things // how many kinds there are
)

// shape is what an instruction of a kind has.
type shape struct {
	ref, alt thing // what its Ref and Alt name
	defines  bool  // a value
	args     int   // how many, but of a phi and of a call
}

// shapes are those of all kinds, each at its number.
var shapes = [...]shape{
	api.KConst:   {defines: true},
	api.KBin:     {defines: true, args: 2},
	api.KPhi:     {defines: true},
	api.KLoad:    {ref: array, defines: true, args: 1},
	api.KWrap:    {ref: array, defines: true, args: 1},
	api.KStore:   {ref: array, args: 2},
	api.KCall:    {ref: function, defines: true},
	api.KInput:   {ref: input, defines: true},
	api.KOutput:  {ref: output, args: 1},
	api.KRelease: {ref: level, defines: true, args: 1},
	api.KJump:    {ref: block},
	api.KBranch:  {ref: block, alt: block, args: 1},
	api.KReturn:  {args: 1},
}

// ends: is an instruction of that kind an end?
func ends(kind uint8) bool {
	return kind == api.KJump || kind == api.KBranch || kind == api.KReturn
}

// stands tells what is wrong with where an instruction stands in its block: behind which kind (behind none as behind a phi), and whether it is the last one.
func stands(kind, ahead uint8, last bool) api.Errno {
	if ends(kind) != last {
		return api.ErrEnd
	}
	if kind == api.KPhi && ahead != api.KPhi {
		return api.ErrPhi
	}
	return api.OK
}
