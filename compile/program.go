package compile

import (
	"slices"

	"sallyport/api"
)

// Op is one step of an action program.
type Op struct{ Kind, Arg int }

// The kinds of steps.
const (
	OpLimit   = 1 // the limit Arg
	OpProxy   = 2
	OpVerdict = 3 // the action Arg
)

// program is what becomes of what a rule has, step by step.
type program []Op

// programOf answers what the rule r of c does.
func programOf(c api.Config, r api.Rule) program {
	var p program
	// No limit has the empty name, by which a rule says that it has none.
	if i := slices.IndexFunc(c.Limits, func(l api.Limit) bool { return l.Name == r.Limit }); i != none {
		p = append(p, Op{Kind: OpLimit, Arg: i})
	}
	if r.Proxy {
		p = append(p, Op{Kind: OpProxy})
	}
	return append(p, Op{Kind: OpVerdict, Arg: r.Action})
}

// outcome is what the steps of a program have come to.
type outcome struct{ api.Choice }

func (o *outcome) limit(place int) { o.Limit = place }

func (o *outcome) proxy(int) { o.Proxy = true }

func (o *outcome) verdict(action int) { o.Action = action }

// steps answers what a step does, by its kind.
func steps() [OpVerdict + 1]func(*outcome, int) {
	return [...]func(*outcome, int){
		OpLimit:   (*outcome).limit,
		OpProxy:   (*outcome).proxy,
		OpVerdict: (*outcome).verdict,
	}
}
