package lang

import (
	"slices"
	"strconv"
	"strings"

	"sallyport/addr"
	"sallyport/api"
)

// Print answers the one text in which c is printed.
func Print(c api.Config) (string, api.Errno) {
	if e := Check(c); e != api.OK {
		return "", e
	}
	lines := slices.Concat(
		each(c.Zones, zoneLine), each(c.Objects, objectLine), each(c.Services, serviceLine), each(c.Limits, limitLine),
		each(c.Routes, routeLine), each(c.Nats, natLine), each(c.Rules, ruleLine), []string{defaultLine(c.Default)},
	)
	if len(lines) > api.MaxLines {
		return "", api.ErrMany
	}
	text := strings.Join(lines, "\n") + "\n"
	if len(text) > api.MaxText {
		return "", api.ErrSize
	}
	return text, api.OK
}

// each answers the lines of things of one kind.
func each[T any](l []T, lineOf func(T) string) []string {
	var lines []string
	for _, x := range l {
		lines = append(lines, lineOf(x))
	}
	return lines
}

func joined(words ...string) string { return strings.Join(words, " ") }

func zoneLine(z api.Zone) string {
	words := []string{zoneWord, z.Name, addr.Print(z.Addr)}
	for _, n := range z.Ifaces {
		words = append(words, strconv.Itoa(n))
	}
	return joined(words...)
}

func objectLine(o api.Object) string {
	words := []string{objectWord, o.Name}
	for _, r := range o.Ranges {
		text, _ := addr.PrintRange(r)
		words = append(words, text)
	}
	return joined(words...)
}

func serviceLine(s api.Service) string {
	words := []string{serviceWord, s.Name}
	if proto, ok := find(protocols(), meaning.value, s.Proto); ok {
		words = append(words, proto.word)
	} else {
		words = append(words, strconv.Itoa(s.Proto))
	}
	switch {
	case !hasPorts(s.Proto):
	case s.From == s.To:
		words = append(words, strconv.Itoa(s.From))
	default:
		words = append(words, pair(s.From, s.To))
	}
	return joined(words...)
}

func limitLine(l api.Limit) string {
	words := []string{limitWord, l.Name, strconv.Itoa(l.Rate), strconv.Itoa(l.Burst)}
	if l.Source {
		words = append(words, sourceWord)
	}
	return joined(words...)
}

// routeLine tells the bits itself: a route may end at an IPv4 address without being one of such, and then its range has no text.
func routeLine(r api.Route) string {
	return joined(routeWord, addr.Print(r.To.From)+"/"+strconv.Itoa(r.Bits), strconv.Itoa(r.Iface))
}

func natLine(n api.Nat) string {
	outer, inner := addr.Print(n.Outer), addr.Print(n.Inner)
	switch n.Kind {
	case api.NatSource:
		return joined(snatWord, n.Zone, n.Object, outer, pair(n.From, n.To))
	case api.NatStatic:
		return joined(staticWord, n.Zone, outer, inner)
	}
	words := []string{dnatWord, outer, n.Service, inner}
	if n.From != 0 {
		words = append(words, strconv.Itoa(n.From))
	}
	return joined(words...)
}

func ruleLine(r api.Rule) string {
	words := []string{ruleWord, r.In, r.Out, r.Src, r.Dst, r.Service, actionWord(r.Action)}
	if r.Limit != "" {
		words = append(words, limitWord, r.Limit)
	}
	if r.Proxy {
		words = append(words, proxyWord)
	}
	return joined(words...)
}

func defaultLine(action int) string { return joined(defaultWord, actionWord(action)) }

func actionWord(action int) string {
	m, _ := find(actions(), meaning.value, action)
	return m.word
}

func pair(from, to int) string { return strconv.Itoa(from) + "-" + strconv.Itoa(to) }
