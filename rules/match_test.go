package rules

import (
	"testing"

	"sallyport/api"
)

// P7.3

func wantMatches(t *testing.T, what string, c api.Config, r api.Rule, h api.Header, want bool) {
	t.Helper()
	if got := Matches(c, r, h); got != want {
		t.Errorf("%s: %v", what, got)
	}
}

// named is the configuration for which a rule says something in each of its five words.
func named(t *testing.T) (api.Config, api.Rule, api.Header) {
	t.Helper()
	c := text(t, "zone in 10.0.0.254 0\nzone out 1.2.3.4 1\nservice web tcp 80\nobject lan 10.0.0.0/8\nobject net 8.8.8.0/24\nlimit slow 1 2\nrule in out lan net web accept\n")
	return c, c.Rules[0], api.Header{In: 0, Out: 1, Key: call()}
}

func TestMatches(t *testing.T) {
	c, r, h := named(t)
	wantMatches(t, "all are as the rule says", c, r, h, true)
	for what, do := range map[string]func(h *api.Header){
		"another zone in":     func(h *api.Header) { h.In = 1 },
		"another zone out":    func(h *api.Header) { h.Out = 0 },
		"another source":      func(h *api.Header) { h.Key.Src = v4(11, 0, 0, 0) },
		"another destination": func(h *api.Header) { h.Key.Dst = v4(8, 8, 9, 0) },
		"another port":        func(h *api.Header) { h.Key.DPort = 81 },
		"another protocol":    func(h *api.Header) { h.Key.Proto = api.ProtoUDP },
		"turned":              func(h *api.Header) { h.Key.Src, h.Key.Dst = h.Key.Dst, h.Key.Src },
		"ports turned":        func(h *api.Header) { h.Key.SPort, h.Key.DPort = h.Key.DPort, h.Key.SPort },
		"zones turned":        func(h *api.Header) { h.In, h.Out = h.Out, h.In },
	} {
		other := h
		do(&other)
		wantMatches(t, what, c, r, other, false)
	}
	h.Key.SPort = 0
	wantMatches(t, "another source port", c, r, h, true)
}

// TestMatchesOfAny has any at each word by itself, and what else fails there.
func TestMatchesOfAny(t *testing.T) {
	c, r, h := named(t)
	for what, do := range map[string]func(r *api.Rule, h *api.Header){
		"zone in":     func(r *api.Rule, h *api.Header) { r.In, h.In = "any", 1 },
		"zone out":    func(r *api.Rule, h *api.Header) { r.Out, h.Out = "any", 0 },
		"source":      func(r *api.Rule, h *api.Header) { r.Src, h.Key.Src = "any", v6(1) },
		"destination": func(r *api.Rule, h *api.Header) { r.Dst, h.Key.Dst = "any", top },
		"service":     func(r *api.Rule, h *api.Header) { r.Service, h.Key.Proto, h.Key.DPort = "any", 47, 0 },
	} {
		rule, header := r, h
		do(&rule, &header)
		wantMatches(t, what, c, rule, header, true)
		wantMatches(t, what+", but the rule names one", c, r, header, false)
		wantMatches(t, what+", as the rule would name it", c, rule, h, true)
	}
	everything := api.Rule{In: "any", Out: "any", Src: "any", Dst: "any", Service: "any"}
	for _, n := range extremes() {
		wantMatches(t, "any at all", api.Config{}, everything, api.Header{In: n, Out: n, Key: api.Key{Proto: n, DPort: n}}, true)
	}
}

// TestMatchesOfNoNames names what is not there.
func TestMatchesOfNoNames(t *testing.T) {
	c, r, h := named(t)
	for _, name := range []string{"", "x", "web", "lan", "slow", "in ", "Any"} {
		for what, do := range map[string]func(r *api.Rule){
			"zone in":     func(r *api.Rule) { r.In = name },
			"zone out":    func(r *api.Rule) { r.Out = name },
			"source":      func(r *api.Rule) { r.Src = "in" + name },
			"destination": func(r *api.Rule) { r.Dst = "out" + name },
			"service":     func(r *api.Rule) { r.Service = "lan" + name },
		} {
			rule := r
			do(&rule)
			wantMatches(t, what+" "+name, c, rule, h, false)
		}
	}
}

// TestMatchesOfZoneNumbers asks for numbers of no zone: they have no name, not even the empty one.
func TestMatchesOfZoneNumbers(t *testing.T) {
	c := api.Config{Zones: []api.Zone{{Name: "a"}, {Name: ""}, {Name: "a"}, {Name: "any"}}}
	names := map[int]string{0: "a", 1: "", 2: "a", 3: "any"}
	for _, n := range append(extremes(), 2, 3, 4) {
		for _, name := range []string{"a", "", "any", "b"} {
			bearer, there := names[n]
			want := name == "any" || there && bearer == name
			r := api.Rule{In: name, Out: "any", Src: "any", Dst: "any", Service: "any"}
			wantMatches(t, "in "+name, c, r, api.Header{In: n}, want)
			r.In, r.Out = r.Out, r.In
			wantMatches(t, "out "+name, c, r, api.Header{Out: n}, want)
		}
	}
}

// TestMatchesOfOtherWords changes what a rule says beside its five words: whether it matches hangs on these alone.
func TestMatchesOfOtherWords(t *testing.T) {
	c, r, h := named(t)
	for _, n := range extremes() {
		r.Action, r.Limit, r.Proxy = n, "no limit", n%2 == 0
		wantMatches(t, "as the rule says", c, r, h, true)
	}
	c.Rules = nil
	wantMatches(t, "a rule of no configuration", c, r, h, true)
}

func wantChoice(t *testing.T, what string, c api.Config, h api.Header, want api.Choice) {
	t.Helper()
	if got := Choose(c, h); got != want {
		t.Errorf("%s: %+v, want %+v", what, got, want)
	}
}

func TestChoose(t *testing.T) {
	c := text(t, `zone in 10.0.0.254 0
zone out 1.2.3.4 1
service web tcp 80
service dns udp 53
object lan 10.0.0.0/8
object bad 10.6.6.6
limit slow 1 2
limit fast 5 9 source
rule any any bad any any reject
rule in out lan any web accept limit fast proxy
rule in out lan any dns accept limit slow
rule in out any any any accept
rule out any any any web drop
default drop
`)
	h := api.Header{In: 0, Out: 1, Key: call()}
	wantChoice(t, "web", c, h, api.Choice{Action: api.Accept, Rule: 1, Limit: 1, Proxy: true})
	h.Key.Proto, h.Key.DPort = api.ProtoUDP, 53
	wantChoice(t, "dns", c, h, api.Choice{Action: api.Accept, Rule: 2, Limit: 0})
	h.Key.DPort = 54
	wantChoice(t, "else", c, h, api.Choice{Action: api.Accept, Rule: 3, Limit: -1})
	h.Key.Src = v4(10, 6, 6, 6)
	wantChoice(t, "bad", c, h, api.Choice{Action: api.Reject, Rule: 0, Limit: -1})
	h = api.Header{In: 1, Out: 0, Key: call()}
	h.Key.Src = v4(9, 9, 9, 9)
	wantChoice(t, "web from without", c, h, api.Choice{Action: api.Drop, Rule: 4, Limit: -1})
	h.In, h.Out = 0, 0
	wantChoice(t, "no rule", c, h, api.Choice{Action: api.Drop, Rule: -1, Limit: -1})
	c.Default = api.Accept
	wantChoice(t, "no rule, accepted", c, h, api.Choice{Action: api.Accept, Rule: -1, Limit: -1})
}

func TestChooseOfNoRules(t *testing.T) {
	for _, n := range extremes() {
		c := api.Config{Default: n, Limits: []api.Limit{{}, {Name: "any"}}}
		wantChoice(t, "no rules", c, api.Header{In: n, Out: n}, api.Choice{Action: n, Rule: -1, Limit: -1})
	}
}

// TestChooseOfLimits has limits that may not be: the first one of a name counts, and the empty name says none.
func TestChooseOfLimits(t *testing.T) {
	c := api.Config{
		Limits: []api.Limit{{Name: ""}, {Name: "a"}, {Name: "b"}, {Name: "a"}, {Name: "any"}, {Name: "b"}},
		Rules:  []api.Rule{{In: "any", Out: "any", Src: "any", Dst: "any", Service: "any"}},
	}
	for name, want := range map[string]int{"": -1, "a": 1, "b": 2, "any": 4, "c": -1, "A": -1} {
		for _, proxy := range []bool{false, true} {
			for _, action := range []int{-1, 0, api.Accept, api.Drop, api.Reject, 4} {
				c.Rules[0].Limit, c.Rules[0].Proxy, c.Rules[0].Action = name, proxy, action
				wantChoice(t, "limit "+name, c, api.Header{}, api.Choice{Action: action, Rule: 0, Limit: want, Proxy: proxy})
			}
		}
	}
}

// P7.6

// TestChooseOfRuleAhead puts a rule that matches everything ahead of all others.
func TestChooseOfRuleAhead(t *testing.T) {
	m := newMaker(1)
	for range 5000 {
		c, h := m.config(), m.header()
		r := api.Rule{In: "any", Out: "any", Src: "any", Dst: "any", Service: "any", Action: m.Intn(5), Proxy: m.Intn(2) == 0}
		c.Rules = append([]api.Rule{r}, c.Rules...)
		wantChoice(t, "a rule ahead", c, h, api.Choice{Action: r.Action, Limit: -1, Proxy: r.Proxy})
	}
}

// TestChooseOfRulesBehind changes the rules behind the one that matches, and the default.
func TestChooseOfRulesBehind(t *testing.T) {
	m := newMaker(2)
	matched := 0
	for range 20000 {
		c, h := m.config(), m.header()
		want := Choose(c, h)
		if want.Rule < 0 {
			continue
		}
		matched++
		other := m.config()
		c.Rules = append(c.Rules[:want.Rule+1:want.Rule+1], other.Rules...)
		c.Default = other.Default
		wantChoice(t, "other rules behind", c, h, want)
		c.Rules = c.Rules[:want.Rule]
		wantChoice(t, "no rules but those ahead", c, h, api.Choice{Action: c.Default, Rule: -1, Limit: -1})
	}
	if matched < 2000 {
		t.Error("too few headers are matched:", matched)
	}
}

// The chapter's examples.

func TestExamples(t *testing.T) {
	c := edge(t)
	wantZone(t, c, 1, 1)
	wantZone(t, c, 9, -1)

	h := api.Header{In: 0, Out: 1, Key: call()}
	wantChoice(t, "in to out, port 80", c, h, api.Choice{Action: api.Accept, Rule: 0, Limit: -1})
	h.Key.DPort = 81
	wantChoice(t, "in to out, port 81", c, h, api.Choice{Action: api.Drop, Rule: -1, Limit: -1})
	h.In, h.Out, h.Key.DPort = 1, 0, 80
	wantChoice(t, "out to in", c, h, api.Choice{Action: api.Drop, Rule: -1, Limit: -1})

	c.Routes = text(t, "zone out 1.2.3.4 1\nroute 8.0.0.0/8 1").Routes
	wantRoute(t, c, v4(8, 8, 8, 8), 1, 1)
	wantRoute(t, c, v4(9, 9, 9, 9), -1, -1)

	c.Nats = text(t, "service web tcp 80\ndnat 1.2.3.4 web 10.0.0.5 8080").Nats
	k := call()
	k.Dst = v4(1, 2, 3, 4)
	wantDest(t, "port 80", c, k, v4(10, 0, 0, 5), 8080, 0)
	k.DPort = 81
	wantDest(t, "port 81", c, k, v4(1, 2, 3, 4), 81, -1)
}
