package lang

import (
	"math"
	"reflect"
	"strings"
	"testing"

	"sallyport/addr"
	"sallyport/api"
)

// P6.3

// wantLine checks that s is one wrong line, alone and among others.
func wantLine(t *testing.T, s string, want api.Errno) {
	t.Helper()
	if c, n, e := Parse(s); n != 1 || e != want || !reflect.DeepEqual(c, api.Config{}) {
		t.Errorf("Parse(%q): %+v, %d, %d; want 1, %d", s, c, n, e, want)
	}
	if c, n, e := Parse("zone zone 10.0.0.1 0\n# no words\n\n" + s + "\nwrong"); n != 4 || e != want || !reflect.DeepEqual(c, api.Config{}) {
		t.Errorf("Parse of %q as line 4: %+v, %d, %d; want 4, %d", s, c, n, e, want)
	}
}

func TestParseOfFullText(t *testing.T) {
	if c, n, e := Parse(fullText); n != 0 || e != api.OK || !reflect.DeepEqual(c, full()) {
		t.Errorf("%+v, %d, %d", c, n, e)
	}
	spaced := strings.ReplaceAll(fullText, " ", " \t ")
	spaced = "\t" + strings.ReplaceAll(spaced, "\n", " # é\r\x00 zone \n \t") + "#"
	if c, n, e := Parse(spaced); n != 0 || e != api.OK || !reflect.DeepEqual(c, full()) {
		t.Errorf("%+v, %d, %d", c, n, e)
	}
}

// with answers a configuration with no more than what do lays into it.
func with(do func(c *api.Config)) api.Config {
	c := api.Config{Default: api.Drop}
	do(&c)
	return c
}

func TestParseOfFewLines(t *testing.T) {
	nothing := api.Config{Default: api.Drop}
	service := func(s api.Service) api.Config {
		return with(func(c *api.Config) { c.Services = []api.Service{s} })
	}
	route := func(r api.Route) api.Config {
		return with(func(c *api.Config) {
			c.Zones = []api.Zone{{Name: "z", Addr: v6(1), Ifaces: []int{7}}}
			c.Routes = []api.Route{r}
		})
	}
	dest := func(port int) api.Config {
		return with(func(c *api.Config) {
			c.Nats = []api.Nat{{Kind: api.NatDest, Outer: v6(1), Service: "any", Inner: v6(2), From: port}}
		})
	}
	const z = "zone z 2001:db8::1 7\n"
	for s, want := range map[string]api.Config{
		"": nothing, "\n": nothing, "\n\n": nothing, "#": nothing, " # default accept": nothing, "\t\n \n": nothing,
		"default drop": nothing, "default drop\n": nothing, "\ndefault\tdrop#": nothing,
		"default accept":       {Default: api.Accept},
		"default accept\n\n\n": {Default: api.Accept},

		"service web tcp 80":                     service(api.Service{Name: "web", Proto: 6, From: 80, To: 80}),
		"service dns udp 53-54":                  service(api.Service{Name: "dns", Proto: 17, From: 53, To: 54}),
		"service gre 47":                         service(api.Service{Name: "gre", Proto: 47, To: 65535}),
		"service tcp tcp":                        service(api.Service{Name: "tcp", Proto: 6, To: 65535}),
		"service udp udp":                        service(api.Service{Name: "udp", Proto: 17, To: 65535}),
		"service s tcp 0-65535":                  service(api.Service{Name: "s", Proto: 6, To: 65535}),
		"service s tcp 0":                        service(api.Service{Name: "s", Proto: 6}),
		"service s udp 65535":                    service(api.Service{Name: "s", Proto: 17, From: 65535, To: 65535}),
		"service s udp 7-7":                      service(api.Service{Name: "s", Proto: 17, From: 7, To: 7}),
		"service s icmp":                         service(api.Service{Name: "s", Proto: 1, To: 65535}),
		"service s icmp6":                        service(api.Service{Name: "s", Proto: 58, To: 65535}),
		"service s all":                          service(api.Service{Name: "s", To: 65535}),
		"service s 0":                            service(api.Service{Name: "s", To: 65535}),
		"service s 1":                            service(api.Service{Name: "s", Proto: 1, To: 65535}),
		"service s 6":                            service(api.Service{Name: "s", Proto: 6, To: 65535}),
		"service s 17":                           service(api.Service{Name: "s", Proto: 17, To: 65535}),
		"service s 58":                           service(api.Service{Name: "s", Proto: 58, To: 65535}),
		"service s 255":                          service(api.Service{Name: "s", Proto: 255, To: 65535}),
		z + "route 10.0.0.1 7":                   route(api.Route{To: api.Range{From: v4(10, 0, 0, 1), To: v4(10, 0, 0, 1)}, Bits: 32, Iface: 7}),
		z + "route 10.0.0.1/32 7":                route(api.Route{To: api.Range{From: v4(10, 0, 0, 1), To: v4(10, 0, 0, 1)}, Bits: 32, Iface: 7}),
		z + "route 10.0.0.0/31 7":                route(api.Route{To: api.Range{From: v4(10, 0, 0, 0), To: v4(10, 0, 0, 1)}, Bits: 31, Iface: 7}),
		z + "route 0.0.0.0/0 7":                  route(api.Route{To: api.Range{From: v4(0, 0, 0, 0), To: v4(255, 255, 255, 255)}, Iface: 7}),
		z + "route 2001:db8::1 7":                route(api.Route{To: api.Range{From: v6(1), To: v6(1)}, Bits: 128, Iface: 7}),
		z + "route 2001:db8::1/128 7":            route(api.Route{To: api.Range{From: v6(1), To: v6(1)}, Bits: 128, Iface: 7}),
		z + "route 2001:db8::/112 7":             route(api.Route{To: api.Range{From: v6(0), To: v6(65535)}, Bits: 112, Iface: 7}),
		z + "route ::/0 7":                       route(api.Route{To: api.Range{To: top}, Iface: 7}),
		z + "route :: 7":                         route(api.Route{Bits: 128, Iface: 7}),
		z + "route ::/80 7":                      route(api.Route{To: api.Range{To: addr.Of4(math.MaxUint32)}, Bits: 80, Iface: 7}),
		"dnat 2001:db8::1 any 2001:db8::2":       dest(0),
		"dnat 2001:db8::1 any 2001:db8::2 0":     dest(0),
		"dnat 2001:db8::1 any 2001:db8::2 1":     dest(1),
		"dnat 2001:db8::1 any 2001:db8::2 65535": dest(65535),
	} {
		if c, n, e := Parse(s); n != 0 || e != api.OK || !reflect.DeepEqual(c, want) {
			t.Errorf("Parse(%q): %+v, %d, %d; want %+v", s, c, n, e, want)
		}
	}
}

// TestParseOfNamesThatAreWords reads names where a word that means something might stand, too.
func TestParseOfNamesThatAreWords(t *testing.T) {
	c, n, e := Parse("zone zone ::1 0\nobject accept ::1\nservice all all\nservice tcp tcp\nlimit limit 1 1\nlimit source 1 1 source\nlimit proxy 1 1\n" +
		"rule zone zone accept accept all accept limit limit\nrule zone zone accept accept tcp accept limit proxy proxy\nrule zone zone accept accept all accept limit source\n")
	if n != 0 || e != api.OK || len(c.Rules) != 3 {
		t.Fatalf("%+v, %d, %d", c, n, e)
	}
	if r := c.Rules[0]; r.Limit != "limit" || r.Proxy {
		t.Errorf("%+v", r)
	}
	if r := c.Rules[1]; r.Limit != "proxy" || !r.Proxy {
		t.Errorf("%+v", r)
	}
	if r := c.Rules[2]; r.Limit != "source" || r.Proxy {
		t.Errorf("%+v", r)
	}
	if c.Limits[0].Source || !c.Limits[1].Source || c.Limits[2].Source {
		t.Errorf("%+v", c.Limits)
	}
}

func TestParseOfWords(t *testing.T) {
	for _, s := range []string{
		"x", "Zone in 10.0.0.1 0", "zon in 10.0.0.1 1", "zones in 10.0.0.1 1", "any", "0", "limits", "rule:", "!", "\\", "accept", "default accept\r", "é", "zone in 10.0.0.1 0 \x01", "zon\x80", "x\x00",
		"zone", "zone in", "zone in 10.0.0.1", "zone in 10.0.0.1#0", // a word that is wanting
		"object", "object o",
		"service", "service s", "service s tcp 80 81", "service s tcp 80 -", "service s icmp 80", "service s icmp 0-65535", "service s icmp6 1", "service s all 80", "service s all 0-65535", "service s 47 1", "service s 47 x", "service s 6 80", "service s 17 53-54", "service s 0 x",
		"limit", "limit l", "limit l 1", "limit l 1 2 x", "limit l 1 2 Source", "limit l 1 2 source source", "limit l 1 2 3", "limit l 1 2 source x",
		"route", "route 10.0.0.0/8", "route 10.0.0.0/8 0 0", "route 10.0.0.0/8 0 x",
		"snat", "snat z", "snat z o", "snat z o 1.2.3.4", "snat z o 1.2.3.4 1-2 3", "snat z o 1.2.3.4 1-2 x",
		"dnat", "dnat 1.2.3.4", "dnat 1.2.3.4 web", "dnat 1.2.3.4 web 10.0.0.5 80 81", "dnat 1.2.3.4 web 10.0.0.5 80 x",
		"static", "static z", "static z 1.2.3.4", "static z 1.2.3.4 10.0.0.5 80", "static z 1.2.3.4 10.0.0.5 x",
		"rule", "rule a", "rule a b", "rule a b c", "rule a b c d", "rule a b c d e", "rule a b c d e x", "rule a b c d e Accept", "rule a b c d e limit l", "rule a b c d e any", "rule a b c d e 1",
		"rule a b c d e accept x", "rule a b c d e accept limit", "rule a b c d e accept limit l x", "rule a b c d e accept limit l limit l", "rule a b c d e accept proxy limit l", "rule a b c d e accept proxy proxy", "rule a b c d e accept limit l proxy x", "rule a b c d e accept proxy l", "rule a b c d e drop source",
		"default", "default reject", "default x", "default Accept", "default any", "default accept drop", "default accept accept", "default accept x", "default 1",
	} {
		wantLine(t, s, api.ErrToken)
	}
}

func TestParseOfNumbers(t *testing.T) {
	for _, n := range []string{"x", "-", "-1", "+1", "01", "00", "1x", "0x1", "1.0", "10000000000", "99999999999", "00000000001", "any", "1_0", "1e3", "source", "!"} {
		for _, s := range []string{"zone z 10.0.0.1 ?", "zone z 10.0.0.1 1 ?", "service s ?", "service s tcp ?", "service s udp ?", "limit l ? 1", "limit l 1 ?", "route 10.0.0.0/8 ?", "route :: ?", "dnat 1.2.3.4 web 10.0.0.5 ?", "snat z o 1.2.3.4 ?"} {
			if n == "source" && strings.HasPrefix(s, "limit l 1") {
				continue
			}
			wantLine(t, strings.ReplaceAll(s, "?", n), api.ErrNumber)
		}
		for _, pair := range []string{n + "-1", "1-" + n, n + "-" + n} {
			wantLine(t, "service s tcp "+pair, api.ErrNumber)
			wantLine(t, "snat z o 1.2.3.4 "+pair, api.ErrNumber)
		}
	}
	for _, s := range []string{
		"service s tcp -", "service s tcp 1-", "service s tcp -1", "service s tcp 1-2-3", "service s udp 1--2", "service s udp 80,81",
		"snat z o 1.2.3.4 -", "snat z o 1.2.3.4 1-", "snat z o 1.2.3.4 -1", "snat z o 1.2.3.4 1-2-3", "snat z o 1.2.3.4 5000", "snat z o 1.2.3.4 any", // two with a - between must stand there
		"service s TCP", "service s igmp", "service s any 80", "service s icmp7", "service s tcp80",
	} {
		wantLine(t, s, api.ErrNumber)
	}
}

func TestParseOfAddresses(t *testing.T) {
	for _, a := range []string{"x", "10.0.0", "10.0.0.01", "10.0.0.256", "any", "::FF", "1:0:0:0:0:0:0:1", "10.0.0.1/32", "10.0.0.0/8", "10.0.0.1-10.0.0.2", "::ffff:0:0", "-", "/", "0"} {
		for _, s := range []string{"zone z ? 0", "snat z o ? 1-2", "dnat ? web 10.0.0.1", "dnat 10.0.0.1 web ?", "dnat 10.0.0.1 web ? 80", "static z ? 10.0.0.1", "static z 10.0.0.1 ?"} {
			wantLine(t, strings.ReplaceAll(s, "?", a), api.ErrAddr)
		}
	}
}

func TestParseOfRanges(t *testing.T) {
	for r, want := range map[string]api.Errno{
		"x": api.ErrAddr, "any": api.ErrAddr, "10.0.0": api.ErrAddr, "x/8": api.ErrAddr, "/": api.ErrAddr, "/8": api.ErrAddr, "10.0.0.1-x/8": api.ErrAddr, "10.0.0.1-10.0.0.2/8": api.ErrAddr, "-/": api.ErrAddr, "::ffff:0:0/96": api.ErrAddr,
		"10.0.0.1/8": api.ErrRange, "10.0.0.0/33": api.ErrRange, "::/129": api.ErrRange, "10.0.0.0/08": api.ErrRange, "10.0.0.0/": api.ErrRange, "10.0.0.0/x": api.ErrRange, "10.0.0.0/-8": api.ErrRange, "10.0.0.0/8-9": api.ErrRange, "10.0.0.0/8/8": api.ErrRange,
	} {
		for _, s := range []string{"object o ?", "object o 10.0.0.1 ?", "object o ? x", "route ? 0", "route ?", "route ? x"} {
			wantLine(t, strings.ReplaceAll(s, "?", r), want)
		}
	}
	for r, want := range map[string]api.Errno{
		"-": api.ErrAddr, "x-y": api.ErrAddr, "10.0.0.1-": api.ErrAddr, "-10.0.0.1": api.ErrAddr, "10.0.0.1-9": api.ErrAddr, "::1-x": api.ErrAddr,
		"10.0.0.9-10.0.0.3": api.ErrRange, "10.0.0.1-::1": api.ErrRange, "::2-::1": api.ErrRange,
	} {
		wantLine(t, "object o "+r, want)
		wantLine(t, "route "+r+" 0", api.ErrRange) // whatever stands around the -
	}
	wantLine(t, "route 10.0.0.0-10.255.255.255 0", api.ErrRange)
	wantLine(t, "route 10.0.0.1-10.0.0.1 x", api.ErrRange)
	wantLine(t, "route ::-:: 0", api.ErrRange)
}

// TestParseTellsTheLeftmost has two things wrong in a line.
func TestParseTellsTheLeftmost(t *testing.T) {
	for s, want := range map[string]api.Errno{
		"zone in 10.0.0":              api.ErrAddr,
		"zone in 10.0.0 x":            api.ErrAddr,
		"zone in 10.0.0.1 x y":        api.ErrNumber,
		"object o 1 10.0.0.1/8":       api.ErrAddr,
		"object o 10.0.0.1/8 1":       api.ErrRange,
		"service s tcp x 1":           api.ErrNumber,
		"service s x x x":             api.ErrNumber,
		"limit l x":                   api.ErrNumber,
		"limit l 1 x y":               api.ErrNumber,
		"limit l 1 source":            api.ErrNumber,
		"route x":                     api.ErrAddr,
		"route 10.0.0.0/8 x y":        api.ErrNumber,
		"snat z o x":                  api.ErrAddr,
		"snat z o x 1":                api.ErrAddr,
		"snat z o 1.2.3.4 1 2 3":      api.ErrNumber,
		"dnat x":                      api.ErrAddr,
		"dnat 1.2.3.4 s x x x":        api.ErrAddr,
		"dnat 1.2.3.4 s 1.2.3.4 x y":  api.ErrNumber,
		"static z x":                  api.ErrAddr,
		"static z 1.2.3.4 x y":        api.ErrAddr,
		"rule a b c d e x limit":      api.ErrToken,
		"zone in x \x01":              api.ErrToken, // of Words, ahead of all else
		"limit l x y \x7f":            api.ErrToken,
		"default x # \x01":            api.ErrToken,
		"zone in 10.0.0 0 # remark":   api.ErrAddr,
		"zone in 10.0.0.1 0 zone b 1": api.ErrNumber,
	} {
		wantLine(t, s, want)
	}
}

func TestParseOfDefaultTwice(t *testing.T) {
	for _, s := range []string{"default drop", "default accept", "default", "default reject", "default drop drop", "default # x"} {
		if c, n, e := Parse("default drop\n\n" + s + "\nx"); n != 3 || e != api.ErrTwice || !reflect.DeepEqual(c, api.Config{}) {
			t.Errorf("%q: %+v, %d, %d", s, c, n, e)
		}
	}
	if _, n, e := Parse("default drop\ndefault \x01"); n != 2 || e != api.ErrToken {
		t.Error(n, e)
	}
}

func TestParseTellsTheFirstLine(t *testing.T) {
	for s, want := range map[string]struct {
		n int
		e api.Errno
	}{
		"zone in 10.0.0 0\nzone in 10.0.0.1 x":     {1, api.ErrAddr},
		"zone any 10.0.0.1 99\nzone in 10.0.0.1 x": {2, api.ErrNumber}, // what Check tells comes behind all lines
		"\n\n\n\nx":                       {5, api.ErrToken},
		"\n \n#\nlimit l x 1\n\x00":       {4, api.ErrNumber},
		"default drop\nx\ndefault drop":   {2, api.ErrToken},
		strings.Repeat("\n", 127) + "x":   {128, api.ErrToken},
		strings.Repeat("\n", 127) + "x\n": {128, api.ErrToken},
	} {
		if c, n, e := Parse(s); n != want.n || e != want.e || !reflect.DeepEqual(c, api.Config{}) {
			t.Errorf("Parse(%q): %+v, %d, %d; want %d, %d", s, c, n, e, want.n, want.e)
		}
	}
}

func TestParseTellsCheck(t *testing.T) {
	for s, want := range map[string]api.Errno{
		"zone any 10.0.0.1 0":                                  api.ErrName,
		"rule a b any any any accept":                          api.ErrName,
		"zone In 10.0.0.1 0":                                   api.ErrName,
		"object a-b 10.0.0.1":                                  api.ErrName,
		"zone in 10.0.0.1 16":                                  api.ErrNumber,
		"zone in 10.0.0.1 9999999999":                          api.ErrNumber,
		"zone in 10.0.0.1 0 0":                                 api.ErrTwice,
		"zone a ::1 0\nzone a ::1 1":                           api.ErrTwice,
		"zone a ::1 0\nzone b ::1 0":                           api.ErrTwice,
		"zone a ::1" + strings.Repeat(" 0", 17):                api.ErrArg,
		"object o" + strings.Repeat(" ::1", 9):                 api.ErrArg,
		"object o ::/80":                                       api.ErrRange,
		"service s 256":                                        api.ErrNumber,
		"service s tcp 65536":                                  api.ErrNumber,
		"service s tcp 54-53":                                  api.ErrNumber,
		"limit l 1 0":                                          api.ErrNumber,
		"limit l 1048577 1":                                    api.ErrNumber,
		"route 10.0.0.1 0":                                     api.ErrNumber,
		"zone z ::1 0\nroute ::1 0\nroute ::1/128 0":           api.ErrTwice,
		"zone z ::1 0\nsnat z o ::1 1-2":                       api.ErrName,
		"zone z ::1 0\nsnat z any ::1 2-1":                     api.ErrNumber,
		"zone z ::1 0\nsnat any any ::1 1-2":                   api.ErrName,
		"dnat ::1 s ::1":                                       api.ErrName,
		"dnat ::1 any 10.0.0.1":                                api.ErrAddr,
		"dnat ::1 any ::1 65536":                               api.ErrNumber,
		"static any ::1 ::1":                                   api.ErrName,
		"zone z ::1 0\nstatic z ::1 10.0.0.1":                  api.ErrAddr,
		"rule any any any any any drop limit l":                api.ErrName,
		"limit l 1 1\nrule any any any any any drop limit l":   api.ErrArg,
		"rule any any any any any drop proxy":                  api.ErrArg,
		"rule any any any any any accept proxy":                api.ErrArg,
		"zone a ::1 0\n" + strings.Repeat("zone a ::1 0\n", 8): api.ErrMany,
		strings.Repeat("rule any any any any any drop\n", 49):  api.ErrMany,
	} {
		if c, n, e := Parse(s); n != 0 || e != want || !reflect.DeepEqual(c, api.Config{}) {
			t.Errorf("Parse(%q): %+v, %d, %d; want 0, %d", s, c, n, e, want)
		}
	}
	if c, n, e := Parse(strings.Repeat("rule any any any any any drop\n", 48)); n != 0 || e != api.OK || len(c.Rules) != 48 {
		t.Error(len(c.Rules), n, e)
	}
}

func TestParseOfLongTexts(t *testing.T) {
	none := api.Config{Default: api.Drop}
	remark := func(n int) string { return "#" + strings.Repeat("x", n-1) }
	for _, c := range []struct {
		s    string
		n    int
		want api.Errno
	}{
		{remark(4096), 0, api.OK},
		{remark(4097), 0, api.ErrSize},
		{remark(4095) + "\n", 0, api.OK},
		{remark(4096) + "\n", 0, api.ErrSize},
		{strings.Repeat(" ", 4096), 0, api.OK},
		{strings.Repeat("x", 4096), 1, api.ErrToken},
		{strings.Repeat("x", 4097), 0, api.ErrSize},
		{strings.Repeat("\n", 4096), 0, api.ErrMany},
		{strings.Repeat("\n", 4097), 0, api.ErrSize},
		{strings.Repeat("\n", 127), 0, api.OK},
		{strings.Repeat("\n", 128), 0, api.OK},
		{strings.Repeat("\n", 129), 0, api.ErrMany},
		{strings.Repeat("\n", 128) + "#", 0, api.ErrMany},
		{strings.Repeat("#\n", 128), 0, api.OK},
		{strings.Repeat("#\n", 128) + " ", 0, api.ErrMany},
		{"x\n" + strings.Repeat("\n", 128), 0, api.ErrMany},
		{"x\n" + strings.Repeat("\n", 127), 1, api.ErrToken},
		{strings.Repeat("zone ", 1<<20), 0, api.ErrSize},
	} {
		want := api.Config{}
		if c.want == api.OK {
			want = none
		}
		if got, n, e := Parse(c.s); n != c.n || e != c.want || !reflect.DeepEqual(got, want) {
			t.Errorf("%d bytes, %d line feeds: %+v, %d, %d; want %d, %d", len(c.s), strings.Count(c.s, "\n"), got, n, e, c.n, c.want)
		}
	}
}

// TestLineHidesNoFaultOfTheProgram panics by something else than a line that is given up.
func TestLineHidesNoFaultOfTheProgram(t *testing.T) {
	defer func() {
		if recover() == nil {
			t.Error("it is hidden")
		}
	}()
	var r *reader
	r.line("default drop")
}

// R3

func TestParseSharesNothing(t *testing.T) {
	a, _, _ := Parse(fullText)
	b, _, _ := Parse(fullText)
	for i := range a.Zones {
		_ = append(a.Zones[i].Ifaces, 99)
		a.Zones[i].Ifaces[0] = 98
	}
	for i := range a.Objects {
		_ = append(a.Objects[i].Ranges, api.Range{To: top})
		a.Objects[i].Ranges[0] = api.Range{To: top}
	}
	a.Rules[0].In, a.Nats[0].Zone, a.Routes[0].Bits, a.Limits[0].Rate, a.Services[0].Proto = "x", "x", 9, 9, 9
	if !reflect.DeepEqual(b, full()) {
		t.Errorf("%+v", b)
	}
	for i := range a.Zones {
		a.Zones[i].Ifaces[0] = full().Zones[i].Ifaces[0]
		if !reflect.DeepEqual(a.Zones[i], full().Zones[i]) {
			t.Errorf("%+v", a.Zones[i])
		}
	}
}

// The chapter's examples.

func TestExamples(t *testing.T) {
	want := api.Config{Zones: []api.Zone{{Name: "in", Addr: v4(10, 0, 0, 1), Ifaces: []int{0, 1}}}, Default: api.Accept}
	if c, n, e := Parse("zone in 10.0.0.1 0 1\ndefault accept"); n != 0 || e != api.OK || !reflect.DeepEqual(c, want) {
		t.Errorf("%+v, %d, %d", c, n, e)
	}
	for s, want := range map[string]api.Errno{"zone in 10.0.0.1": api.ErrToken, "zone in 10.0.0.1 x": api.ErrNumber, "zone in 10.0.0 1": api.ErrAddr, "zon in 10.0.0.1 1": api.ErrToken, "default reject": api.ErrToken} {
		wantLine(t, s, want)
	}
}
