package lang

import (
	"math/rand"
	"reflect"
	"strings"
	"testing"

	"sallyport/addr"
	"sallyport/api"
)

// P6.4

func TestPrintOfFull(t *testing.T) {
	c := full()
	if s, e := Print(c); s != fullText || e != api.OK {
		t.Errorf("%s, %d", s, e)
	}
	if !reflect.DeepEqual(c, full()) {
		t.Error("it is changed")
	}
}

func TestPrintOfNothing(t *testing.T) {
	for action, want := range map[int]string{api.Accept: "default accept\n", api.Drop: "default drop\n"} {
		if s, e := Print(api.Config{Default: action}); s != want || e != api.OK {
			t.Errorf("%q, %d", s, e)
		}
	}
}

// TestPrintOfLines reads lines, and prints them in their one form.
func TestPrintOfLines(t *testing.T) {
	const z = "zone z ::1 0\n"
	for s, want := range map[string]string{
		"":                                  "",
		"service s tcp":                     "service s tcp 0-65535\n",
		"service s udp":                     "service s udp 0-65535\n",
		"service s 6":                       "service s tcp 0-65535\n",
		"service s 17":                      "service s udp 0-65535\n",
		"service s 1":                       "service s icmp\n",
		"service s 58":                      "service s icmp6\n",
		"service s 0":                       "service s all\n",
		"service s 255":                     "service s 255\n",
		"service s tcp 7-7":                 "service s tcp 7\n",
		"service s tcp 0":                   "service s tcp 0\n",
		"service s udp 0-0":                 "service s udp 0\n",
		"service s udp 0-1":                 "service s udp 0-1\n",
		"object o 10.0.0.0-10.0.0.3":        "object o 10.0.0.0/30\n",
		"object o 10.0.0.1-10.0.0.1":        "object o 10.0.0.1\n",
		"object o 10.0.0.1/32":              "object o 10.0.0.1\n",
		"object o ::2-::3  ::1-::3 ::1/128": "object o ::2/127 ::1-::3 ::1\n",
		z + "route 10.0.0.1 0":              z + "route 10.0.0.1/32 0\n",
		z + "route ::1 0":                   z + "route ::1/128 0\n",
		z + "route ::/80 0":                 z + "route ::/80 0\n",
		"dnat ::1 any ::2 0":                "dnat ::1 any ::2\n",
		"dnat ::1 any ::2 1":                "dnat ::1 any ::2 1\n",
		z + "snat z any ::1 5-5":            z + "snat z any ::1 5-5\n",
		"limit l 0 1 # source":              "limit l 0 1\n",
		"\trule any  any any any any drop\n\n#\nlimit\tl 1 1048576 source\nservice s all\nobject o ::1\n" + z: z + "object o ::1\nservice s all\nlimit l 1 1048576 source\nrule any any any any any drop\n",
		"object b ::1\nobject a ::1\nobject c ::1":                                                            "object b ::1\nobject a ::1\nobject c ::1\n",
	} {
		c, n, e := Parse(s)
		if n != 0 || e != api.OK {
			t.Fatalf("Parse(%q): %d, %d", s, n, e)
		}
		if got, e := Print(c); got != want+"default drop\n" || e != api.OK {
			t.Errorf("Print of %q: %q, %d; want %q", s, got, e, want)
		}
	}
}

// lines answers a configuration of that many lines.
func lines(n int) api.Config {
	c := api.Config{Default: api.Drop}
	n--
	for _, s := range named(min(n, 32), 2) {
		c.Objects = append(c.Objects, api.Object{Name: s, Ranges: []api.Range{{}}})
	}
	n -= len(c.Objects)
	for _, s := range named(min(n, 32), 2) {
		c.Services = append(c.Services, api.Service{Name: s, To: 65535})
	}
	n -= len(c.Services)
	for range min(n, 16) {
		c.Nats = append(c.Nats, api.Nat{Kind: api.NatDest, Service: "any"})
	}
	n -= len(c.Nats)
	for range n {
		c.Rules = append(c.Rules, api.Rule{In: "any", Out: "any", Src: "any", Dst: "any", Service: "any", Action: api.Drop})
	}
	return c
}

func TestPrintOfManyLines(t *testing.T) {
	for n := 1; n <= 129; n++ {
		s, e := Print(lines(n))
		switch {
		case n <= 128 && (e != api.OK || strings.Count(s, "\n") != n):
			t.Errorf("%d lines: %d, %d", n, strings.Count(s, "\n"), e)
		case n > 128 && (e != api.ErrMany || s != ""):
			t.Errorf("%d lines: %q, %d", n, s, e)
		}
	}
	if s, _ := Print(lines(128)); len(s) > 4096 {
		t.Error("the lines are too long to tell anything")
	}
}

// bytesOf answers a configuration whose text has that many bytes, some 4000.
func bytesOf(n int) api.Config {
	name := "nnnnnnnnnnnn"
	c := api.Config{Zones: []api.Zone{{Name: name, Ifaces: []int{0}}}, Objects: []api.Object{{Name: name, Ranges: []api.Range{{}}}}, Default: api.Accept}
	size := len("zone nnnnnnnnnnnn :: 0\nobject nnnnnnnnnnnn ::\ndefault accept\n")
	for range 48 {
		c.Rules = append(c.Rules, api.Rule{In: name, Out: name, Src: name, Dst: name, Service: "any", Action: api.Accept})
		size += len("rule nnnnnnnnnnnn nnnnnnnnnnnn nnnnnnnnnnnn nnnnnnnnnnnn any accept\n")
	}
	for _, s := range named(32, 8) {
		c.Services = append(c.Services, api.Service{Name: s, To: 65535})
		size += len("service nnnnnnnn all\n")
	}
	for i := range n - size {
		c.Services[i%32].Name += "x"
	}
	return c
}

func TestPrintOfManyBytes(t *testing.T) {
	for n := 4010; n <= 4120; n++ {
		c := bytesOf(n)
		s, e := Print(c)
		if n > api.MaxText {
			if e != api.ErrSize || s != "" {
				t.Errorf("%d bytes: %q, %d", n, s, e)
			}
			continue
		}
		if e != api.OK || len(s) != n {
			t.Errorf("%d bytes: %d, %d", n, len(s), e)
		}
		if got, k, e := Parse(s); k != 0 || e != api.OK || !reflect.DeepEqual(got, c) {
			t.Errorf("%d bytes: %+v, %d, %d", n, got, k, e)
		}
	}
}

func TestPrintOfManyLinesAndBytes(t *testing.T) {
	c := lines(129)
	for i := range c.Objects {
		c.Objects[i].Ranges = make([]api.Range, 8)
		for k := range c.Objects[i].Ranges {
			c.Objects[i].Ranges[k] = api.Range{From: v6(1<<60 + 1), To: v6(1<<60 + 3)}
		}
	}
	if s, e := Print(c); s != "" || e != api.ErrMany {
		t.Errorf("%q, %d", s, e)
	}
	c.Rules = c.Rules[1:]
	if s, e := Print(c); s != "" || e != api.ErrSize {
		t.Errorf("%q, %d", s, e)
	}
	c.Default = 0
	if s, e := Print(c); s != "" || e != api.ErrArg {
		t.Errorf("%q, %d", s, e)
	}
}

// TestPrintOfRoutes prints routes of each number of bits.
func TestPrintOfRoutes(t *testing.T) {
	for bits := range 129 {
		for _, a := range []api.Addr{v4(0, 0, 0, 0), {}} {
			to, e := addr.Prefix(a, bits)
			if e != api.OK {
				continue
			}
			c := api.Config{Zones: []api.Zone{{Name: "z", Ifaces: []int{0}}}, Routes: []api.Route{{To: to, Bits: bits}}, Default: api.Drop}
			s, e := Print(c)
			if got, n, parsed := Parse(s); e != api.OK || n != 0 || parsed != api.OK || !reflect.DeepEqual(got, c) {
				t.Errorf("%q, %d: %+v, %d, %d", s, e, got, n, parsed)
			}
		}
	}
}

// P6.5

func TestParseOfPrintIsTheConfiguration(t *testing.T) {
	m := maker{rand.New(rand.NewSource(2))}
	for range 20000 {
		c := m.config()
		s, e := Print(c)
		if e != api.OK {
			t.Fatalf("%+v: %d", c, e)
		}
		if got, n, e := Parse(s); n != 0 || e != api.OK || !reflect.DeepEqual(got, c) {
			t.Fatalf("%s: %+v, %d, %d; want %+v", s, got, n, e, c)
		}
	}
}
