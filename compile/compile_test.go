package compile

import (
	"math"
	"reflect"
	"slices"
	"testing"

	"sallyport/api"
)

// P10.3

func TestNodes(t *testing.T) {
	for what, x := range map[string]struct {
		c     api.Config
		nodes int
	}{
		"no rules":       {text(t, ""), 1},
		"one entry":      {edge(t, "rule any any any any any drop"), 1},
		"six entries":    {edge(t, "rule in out lan net web accept"), 1},
		"eight entries":  {edge(t, "rule in out lan net web accept", "rule out in lan any web accept"), 1},
		"nine entries":   {edge(t, "rule in out net net web accept"), 3},
		"sixteen":        {edge(t, "rule any in any any any accept"), 3},
		"what is behind": {edge(t, "rule any any any any any drop", "rule any in any any any accept"), 5}, // the first one does not cover the zones above 255, which no header has
		"a grid of 4":    {bars(4), 1},
		"a grid of 8":    {bars(8), 7},
		"a grid of 16":   {bars(16), 31},
		"a grid of 32":   {bars(32), 127},
		"a grid of 64":   {bars(64), 511},
	} {
		if n := lower(t, x.c).Nodes(); n != x.nodes {
			t.Errorf("%s: %d nodes, want %d", what, n, x.nodes)
		}
	}
}

// TestTooComplex has tables of few entries, but too many nodes.
func TestTooComplex(t *testing.T) {
	c := bars(64)
	c.Objects = append(c.Objects, api.Object{Name: "o", Ranges: []api.Range{rng(20, 20)}})
	r := api.Rule{In: "any", Out: "any", Src: "o", Dst: "o", Service: "any", Action: api.Drop}
	c.Rules = append([]api.Rule{r}, c.Rules...)
	if n := len(entriesOf(t, c)); n != 129 {
		t.Errorf("%d entries", n)
	}
	wantNoTable(t, "a ninth entry in one of 256 leaves", c, api.ErrComplex)
	c.Rules[0].Src = "any"
	wantNoTable(t, "in sixteen of them", c, api.ErrComplex)
}

func TestNoTable(t *testing.T) {
	for e, c := range wrong(t) {
		wantNoTable(t, "what may not be", c, e)
	}
	c := bars(64)
	c.Rules = append(c.Rules, c.Rules[0])
	wantNoTable(t, "too complex", c, api.ErrComplex)
	c.Default = 0
	wantNoTable(t, "too complex, and what may not be", c, api.ErrArg)
}

func TestProgram(t *testing.T) {
	c := edge(t,
		"rule in out lan any web accept limit slow proxy",
		"rule any any any any any reject",
		"rule any any any any any drop",
		"rule any any any any any accept",
		"rule any any any any any accept limit fast",
		"rule any any any any tcp accept proxy",
		"rule any any any any any accept limit slow",
		"default accept")
	x := lower(t, c)
	wantProgram(t, x, 0, Op{OpLimit, 0}, Op{OpProxy, 0}, Op{OpVerdict, api.Accept})
	wantProgram(t, x, 1, Op{OpVerdict, api.Reject})
	wantProgram(t, x, 2, Op{OpVerdict, api.Drop})
	wantProgram(t, x, 3, Op{OpVerdict, api.Accept})
	wantProgram(t, x, 4, Op{OpLimit, 1}, Op{OpVerdict, api.Accept})
	wantProgram(t, x, 5, Op{OpProxy, 0}, Op{OpVerdict, api.Accept})
	wantProgram(t, x, 6, Op{OpLimit, 0}, Op{OpVerdict, api.Accept})
	for _, n := range extremes() {
		if n < 0 || n >= 7 {
			wantProgram(t, x, n, Op{OpVerdict, api.Accept})
		}
	}
	wantProgram(t, x, 7, Op{OpVerdict, api.Accept})
	c.Default = api.Drop
	x = lower(t, c)
	for _, n := range []int{math.MinInt, -1, 7, 8, math.MaxInt} {
		wantProgram(t, x, n, Op{OpVerdict, api.Drop})
	}
	x = lower(t, text(t, ""))
	for _, n := range extremes() {
		wantProgram(t, x, n, Op{OpVerdict, api.Drop})
	}
}

// TestProgramOfTheLastOnes has as many limits and rules as there may be.
func TestProgramOfTheLastOnes(t *testing.T) {
	c := sized()
	for i := range api.MaxLimits {
		c.Limits = append(c.Limits, api.Limit{Name: "l" + string(rune('a'+i)), Burst: 1})
	}
	for i := range api.MaxRules {
		r := sized("any any any").Rules[0]
		r.Limit = c.Limits[(i*7+3)%api.MaxLimits].Name
		c.Rules = append(c.Rules, r)
	}
	x := lower(t, c)
	for i := range api.MaxRules {
		wantProgram(t, x, i, Op{OpLimit, (i*7 + 3) % 16}, Op{OpVerdict, api.Accept})
	}
	wantProgram(t, x, api.MaxRules, Op{OpVerdict, api.Drop})
}

// P10.4

func TestChoose(t *testing.T) {
	x := lower(t, edge(t,
		"rule any any net any any reject",
		"rule in out lan any web accept limit fast proxy",
		"rule in out lan any dns accept limit slow",
		"rule in out any any tcp accept proxy",
		"rule out any any any web drop",
		"default accept"))
	h := call() // of the entries there are 3 of net, 2 of lan, 2 more, and 1 each: 9, and so the tree has several nodes
	if n := x.Nodes(); n != 3 {
		t.Fatalf("%d nodes", n)
	}
	for _, y := range []struct {
		what string
		do   func(h *api.Header)
		want api.Choice
	}{
		{"web", func(h *api.Header) {}, api.Choice{Action: api.Accept, Rule: 1, Limit: 1, Proxy: true}},
		{"dns", func(h *api.Header) { h.Key.Proto, h.Key.DPort = api.ProtoUDP, 53 }, api.Choice{Action: api.Accept, Rule: 2, Limit: 0}},
		{"another port", func(h *api.Header) { h.Key.DPort = 81 }, api.Choice{Action: api.Accept, Rule: 3, Limit: -1, Proxy: true}},
		{"from the net", func(h *api.Header) { h.Key.Src = v6(9) }, api.Choice{Action: api.Reject, Rule: 0, Limit: -1}},
		{"from without", func(h *api.Header) { h.In, h.Out = 1, 0 }, api.Choice{Action: api.Drop, Rule: 4, Limit: -1}},
		{"no rule", func(h *api.Header) { h.In, h.Out = 2, 0 }, api.Choice{Action: api.Accept, Rule: -1, Limit: -1}},
	} {
		other := h
		y.do(&other)
		got, visited, compared := x.Choose(other)
		if got != y.want || visited != 2 || compared < 1 || compared > api.LeafCap {
			t.Errorf("%s: %+v, %d, %d; want %+v", y.what, got, visited, compared, y.want)
		}
	}
}

// TestChooseCounts has trees of which it is told by hand which nodes are visited, and what is compared there.
func TestChooseCounts(t *testing.T) {
	h := call()
	byDefault := api.Choice{Action: api.Drop, Rule: -1, Limit: -1}
	wantChoose(t, "no rules", lower(t, edge(t)), h, byDefault, 1, 0)
	x := lower(t, edge(t, "rule any any net any any reject", "rule in out lan any web accept limit fast proxy"))
	accepted := api.Choice{Action: api.Accept, Rule: 1, Limit: 1, Proxy: true}
	wantChoose(t, "the fourth of five", x, h, accepted, 1, 4)
	h.Key.Src = v4(192, 168, 0, 0)
	wantChoose(t, "the fifth of five", x, h, accepted, 1, 5)
	h.Key.Src = v4(192, 169, 0, 0)
	wantChoose(t, "none of five", x, h, byDefault, 1, 5)
	h.Key.Src = v4(8, 8, 8, 255)
	wantChoose(t, "the first of five", x, h, api.Choice{Action: api.Reject, Rule: 0, Limit: -1}, 1, 1)

	x = lower(t, edge(t, "rule any dmz any any any reject")) // 16 entries: of their 32 points the one number 16 lies just ahead of the ninth
	for in := range 16 {
		h = api.Header{In: in, Out: 2}
		wantChoose(t, "sixteen zones", x, h, api.Choice{Action: api.Reject, Rule: 0, Limit: -1}, 2, in%8+1)
		h.Out = 3
		wantChoose(t, "none of sixteen zones", x, h, byDefault, 2, 8)
	}

	x = lower(t, bars(64)) // 64 bars are halved till 4 are left, first by the source, then by the destination
	for n := range 70 {
		rule := min(n, 63) / 8
		h = api.Header{Key: api.Key{Src: num(n), Dst: num(3 * n)}}
		wantChoose(t, "a grid", x, h, api.Choice{Action: api.Accept, Rule: rule, Limit: -1}, 9, min(n, 63)%4+1)
	}
}

// TestChooseHasNoRoom has headers without a point: the default is chosen, whatever the rules are, and no node visited.
func TestChooseHasNoRoom(t *testing.T) {
	for _, action := range []int{api.Accept, api.Drop} {
		c := edge(t, "rule any any any any any reject")
		c.Default = action
		x := lower(t, c)
		want := api.Choice{Action: action, Rule: -1, Limit: -1}
		wantChoose(t, "with a point", x, call(), api.Choice{Action: api.Reject, Rule: 0, Limit: -1}, 1, 1)
		for _, n := range extremes() {
			if n >= 0 && n <= 65535 {
				continue
			}
			for what, do := range map[string]func(h *api.Header){
				"in":               func(h *api.Header) { h.In = n },
				"out":              func(h *api.Header) { h.Out = n },
				"protocol":         func(h *api.Header) { h.Key.Proto = n },
				"source port":      func(h *api.Header) { h.Key.SPort = n },
				"destination port": func(h *api.Header) { h.Key.DPort = n },
			} {
				h := call()
				do(&h)
				wantChoose(t, what, x, h, want, 0, 0)
			}
		}
		h := call()
		h.In = 16
		wantChoose(t, "in 16", x, h, want, 0, 0)
		h = call()
		h.Out = 16
		wantChoose(t, "out 16", x, h, want, 0, 0)
		h = call()
		h.Key.Proto = 256
		wantChoose(t, "protocol 256", x, h, want, 0, 0)
	}
}

// R3, R5

// TestProgramIsNewMemory changes what was answered.
func TestProgramIsNewMemory(t *testing.T) {
	x := lower(t, edge(t, "rule in out lan any web accept limit fast proxy"))
	for _, rule := range []int{-1, 0, 1} {
		first, second := x.Program(rule), x.Program(rule)
		want := slices.Clone(second)
		first = first[:cap(first)]
		for i := range first {
			first[i] = Op{7, 7}
		}
		wantProgram(t, x, rule, want...)
		if !slices.Equal(second, want) {
			t.Error("two answers share memory")
		}
	}
	wantChoose(t, "behind that", x, call(), api.Choice{Action: api.Accept, Rule: 0, Limit: 1, Proxy: true}, 1, 1)
	h := call()
	h.Out = 0
	wantChoose(t, "behind that, no rule", x, h, api.Choice{Action: api.Drop, Rule: -1, Limit: -1}, 1, 2)
}

// TestTableKeepsNothingThatIsHandedIn changes a configuration behind its lowering.
func TestTableKeepsNothingThatIsHandedIn(t *testing.T) {
	c := edge(t, "rule in out lan any web accept limit fast proxy", "rule any any net net any reject")
	was := copyOf(c)
	x, y := lower(t, c), lower(t, c)
	if !reflect.DeepEqual(c, was) {
		t.Error("Lower changed what was handed in")
	}
	clear(c.Zones)
	clear(c.Objects[0].Ranges)
	clear(c.Objects)
	clear(c.Services)
	clear(c.Limits)
	clear(c.Rules)
	for _, z := range []*Table{x, y} {
		wantChoose(t, "behind that", z, call(), api.Choice{Action: api.Accept, Rule: 0, Limit: 1, Proxy: true}, 2, 1)
		wantProgram(t, z, 0, Op{OpLimit, 1}, Op{OpProxy, 0}, Op{OpVerdict, api.Accept})
		wantProgram(t, z, 1, Op{OpVerdict, api.Reject})
	}
}

// The chapter's examples.

func TestExamples(t *testing.T) {
	wantEntries(t, "any", edge(t, "rule any any any any any accept"), entry(0, rng(0, 255), rng(0, 255), rng(0, 65535), all, all))
	if l := entriesOf(t, edge(t, "rule any out lan any web accept")); len(l) != 32 {
		t.Errorf("%d entries", len(l))
	}
	x := lower(t, edge(t, "rule any out lan any web accept limit slow proxy"))
	wantProgram(t, x, 0, Op{Kind: OpLimit, Arg: 0}, Op{Kind: OpProxy}, Op{Kind: OpVerdict, Arg: api.Accept})
	wantProgram(t, x, -1, Op{Kind: OpVerdict, Arg: api.Drop})
}
