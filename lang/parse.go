package lang

import (
	"strings"

	"sallyport/addr"
	"sallyport/api"
	"sallyport/decimal"
)

// Parse answers the configuration that s says; else the number of the first line that is wrong (0, if each line alone is right) and the error.
func Parse(s string) (api.Config, int, api.Errno) {
	if len(s) > api.MaxText {
		return api.Config{}, 0, api.ErrSize
	}
	lines := strings.Split(strings.TrimSuffix(s, "\n"), "\n")
	if len(lines) > api.MaxLines {
		return api.Config{}, 0, api.ErrMany
	}
	r := reader{c: api.Config{Default: api.Drop}}
	for i, line := range lines {
		if e := r.line(line); e != api.OK {
			return api.Config{}, i + 1, e
		}
	}
	if e := Check(r.c); e != api.OK {
		return api.Config{}, 0, e
	}
	return r.c, 0, api.OK
}

// command is a kind of line: its first word, and what reads those behind it.
type command struct {
	word string
	read func(*reader)
}

func (c command) text() string { return c.word }

func commands() []command {
	return []command{
		{zoneWord, (*reader).zone},
		{objectWord, (*reader).object},
		{serviceWord, (*reader).service},
		{limitWord, (*reader).limit},
		{routeWord, (*reader).route},
		{snatWord, (*reader).snat},
		{dnatWord, (*reader).dnat},
		{staticWord, (*reader).static},
		{ruleWord, (*reader).rule},
		{defaultWord, (*reader).byDefault},
	}
}

// reader reads lines, one by one, into a configuration.
type reader struct {
	c          api.Config
	hasDefault bool     // a line said the default
	words      []string // of the line that is read: those that are left
}

// fault is what a line is given up with.
type fault struct{ errno api.Errno }

// line reads one line.
func (r *reader) line(s string) (e api.Errno) {
	defer func() {
		given := recover()
		if given == nil {
			return
		}
		f, ok := given.(fault)
		// What is no fault of the line is one of the program, and not to be hidden behind an error.
		if !ok {
			panic(given)
		}
		e = f.errno
	}()
	words, e := Words(s)
	if e != api.OK || len(words) == 0 {
		return e
	}
	r.words = words
	r.command()
	return api.OK
}

func (r *reader) command() {
	c, ok := find(commands(), command.text, r.word())
	if !ok {
		panic(fault{api.ErrToken})
	}
	c.read(r)
	if r.more() {
		panic(fault{api.ErrToken})
	}
}

func (r *reader) zone() {
	z := api.Zone{Name: r.word(), Addr: r.addr(), Ifaces: []int{r.number()}}
	for r.more() {
		z.Ifaces = append(z.Ifaces, r.number())
	}
	r.c.Zones = append(r.c.Zones, z)
}

func (r *reader) object() {
	o := api.Object{Name: r.word(), Ranges: []api.Range{parseRange(r.word())}}
	for r.more() {
		o.Ranges = append(o.Ranges, parseRange(r.word()))
	}
	r.c.Objects = append(r.c.Objects, o)
}

func (r *reader) service() {
	s := api.Service{Name: r.word(), To: maxPort}
	word := r.word()
	proto, named := find(protocols(), meaning.text, word)
	if named {
		s.Proto = proto.number
	} else {
		s.Proto = parseNumber(word)
	}
	// A protocol that is told by its number takes no ports, whichever it is.
	if named && hasPorts(s.Proto) && r.more() {
		s.From, s.To = parsePorts(r.word())
	}
	r.c.Services = append(r.c.Services, s)
}

func (r *reader) limit() {
	l := api.Limit{Name: r.word(), Rate: r.number(), Burst: r.number(), Source: r.take(sourceWord)}
	r.c.Limits = append(r.c.Limits, l)
}

func (r *reader) route() {
	to, bits := parsePrefix(r.word())
	r.c.Routes = append(r.c.Routes, api.Route{To: to, Bits: bits, Iface: r.number()})
}

func (r *reader) snat() {
	n := api.Nat{Kind: api.NatSource, Zone: r.word(), Object: r.word(), Outer: r.addr()}
	n.From, n.To = parsePair(r.word())
	r.c.Nats = append(r.c.Nats, n)
}

func (r *reader) dnat() {
	n := api.Nat{Kind: api.NatDest, Outer: r.addr(), Service: r.word(), Inner: r.addr()}
	if r.more() {
		n.From = r.number()
	}
	r.c.Nats = append(r.c.Nats, n)
}

func (r *reader) static() {
	n := api.Nat{Kind: api.NatStatic, Zone: r.word(), Outer: r.addr(), Inner: r.addr()}
	r.c.Nats = append(r.c.Nats, n)
}

func (r *reader) rule() {
	rule := api.Rule{In: r.word(), Out: r.word(), Src: r.word(), Dst: r.word(), Service: r.word(), Action: r.oneOf(actions())}
	if r.take(limitWord) {
		rule.Limit = r.word()
	}
	rule.Proxy = r.take(proxyWord)
	r.c.Rules = append(r.c.Rules, rule)
}

func (r *reader) byDefault() {
	// The word that says it once more is what is wrong first, whatever stands behind it.
	if r.hasDefault {
		panic(fault{api.ErrTwice})
	}
	r.c.Default, r.hasDefault = r.oneOf(defaults()), true
}

func (r *reader) more() bool { return len(r.words) > 0 }

// word takes the next word.
func (r *reader) word() string {
	if !r.more() {
		panic(fault{api.ErrToken})
	}
	w := r.words[0]
	r.words = r.words[1:]
	return w
}

// take takes the next word, if it is w, and tells whether it was.
func (r *reader) take(w string) bool {
	if !r.more() || r.words[0] != w {
		return false
	}
	r.words = r.words[1:]
	return true
}

// oneOf takes a word that is one of l's, and answers what it means.
func (r *reader) oneOf(l []meaning) int {
	m, ok := find(l, meaning.text, r.word())
	if !ok {
		panic(fault{api.ErrToken})
	}
	return m.number
}

func (r *reader) number() int { return parseNumber(r.word()) }

func (r *reader) addr() api.Addr {
	a, e := addr.Parse(r.word())
	if e != api.OK {
		panic(fault{e})
	}
	return a
}

func parseNumber(word string) int {
	n, ok := decimal.Parse(word)
	if !ok {
		panic(fault{api.ErrNumber})
	}
	return n
}

// parsePorts reads a number, or two with a - between.
func parsePorts(word string) (int, int) {
	if strings.Contains(word, "-") {
		return parsePair(word)
	}
	n := parseNumber(word)
	return n, n
}

// parsePair reads two numbers with a - between. Without it nothing is left for the second one, which is then none.
func parsePair(word string) (int, int) {
	from, to, _ := strings.Cut(word, "-")
	return parseNumber(from), parseNumber(to)
}

func parseRange(word string) api.Range {
	r, e := addr.ParseRange(word)
	if e != api.OK {
		panic(fault{e})
	}
	return r
}

// parsePrefix reads an address, or one with its first bits, and answers how many these are, too.
func parsePrefix(word string) (api.Range, int) {
	_, bits, slash := strings.Cut(word, "/")
	if !slash && strings.Contains(word, "-") {
		panic(fault{api.ErrRange})
	}
	r := parseRange(word)
	switch {
	case slash:
		return r, parseNumber(bits)
	case addr.Is4(r.From):
		return r, bits4
	}
	return r, bits6
}
