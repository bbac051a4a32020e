package rules

import (
	"slices"

	"sallyport/api"
)

// question asks whether a rule of a configuration matches a header.
type question struct {
	config api.Config
	rule   api.Rule
	header api.Header
}

func (q *question) in() bool { return q.zone(q.rule.In, q.header.In) }

func (q *question) out() bool { return q.zone(q.rule.Out, q.header.Out) }

func (q *question) src() bool { return Within(q.config, q.rule.Src, q.header.Key.Src) }

func (q *question) dst() bool { return Within(q.config, q.rule.Dst, q.header.Key.Dst) }

func (q *question) service() bool { return Serves(q.config, q.rule.Service, q.header.Key) }

// zone tells whether a rule that names a zone so means the one with that number.
func (q *question) zone(name string, number int) bool {
	return name == anyName || bears(q.config, number, name)
}

// Matches tells whether the rule r matches h.
func Matches(c api.Config, r api.Rule, h api.Header) bool {
	q := &question{config: c, rule: r, header: h}
	for _, holds := range [...]func() bool{q.in, q.out, q.src, q.dst, q.service} {
		if !holds() {
			return false
		}
	}
	return true
}

// Choose answers what the configuration chooses for h.
func Choose(c api.Config, h api.Header) api.Choice {
	i := slices.IndexFunc(c.Rules, func(r api.Rule) bool { return Matches(c, r, h) })
	if i == none {
		return api.Choice{Action: c.Default, Rule: none, Limit: none}
	}
	r := c.Rules[i]
	return api.Choice{Action: r.Action, Rule: i, Limit: limitPlace(c, r.Limit), Proxy: r.Proxy}
}

// limitPlace answers the place of the limit with that name. An empty name says that there is none, also where a limit bears it.
func limitPlace(c api.Config, name string) int {
	if name == "" {
		return none
	}
	return slices.IndexFunc(c.Limits, func(l api.Limit) bool { return l.Name == name })
}
