package compile

import (
	"slices"

	"sallyport/addr"
	"sallyport/api"
	"sallyport/cuts"
	"sallyport/lang"
)

// The greatest numbers that a point has room for.
const (
	maxZone  = 15
	maxProto = 255
	maxPort  = 65535
)

const maxEntries = 1024

// anyName stands where a rule names nothing; nothing is named so.
const anyName = "any"

// Point answers the point of a header; false, if one of its numbers has no room there.
func Point(h api.Header) (api.Point, bool) {
	k := h.Key
	if !within(h.In, maxZone) || !within(h.Out, maxZone) ||
		!within(k.Proto, maxProto) || !within(k.SPort, maxPort) || !within(k.DPort, maxPort) {
		return api.Point{}, false
	}
	var p api.Point
	p.F[api.FieldZones] = addr.Of(zonePair(h.In, h.Out))
	p.F[api.FieldProto] = addr.Of(k.Proto)
	p.F[api.FieldSPort] = addr.Of(k.SPort)
	p.F[api.FieldDPort] = addr.Of(k.DPort)
	p.F[api.FieldSrc] = k.Src
	p.F[api.FieldDst] = k.Dst
	return p, true
}

// Entries answers the boxes of all rules of c, rule by rule.
func Entries(c api.Config) ([]api.Entry, api.Errno) {
	if e := lang.Check(c); e != api.OK {
		return nil, e
	}
	var l []api.Entry
	for i, r := range c.Rules {
		for _, b := range boxes(c, r) {
			l = append(l, api.Entry{Box: b, Rule: i})
		}
		if len(l) > maxEntries {
			return nil, api.ErrComplex
		}
	}
	return l, api.OK
}

// boxes answers those of the rule r of c. It and what it calls go by what lang.Check has held: that each name is there, and any none.
func boxes(c api.Config, r api.Rule) []api.Box {
	var l []api.Box
	b := serviceBox(c, r.Service)
	sources, destinations := addresses(c, r.Src), addresses(c, r.Dst)
	for _, zones := range zoneRanges(c, r) {
		for _, src := range sources {
			for _, dst := range destinations {
				b.F[api.FieldZones], b.F[api.FieldSrc], b.F[api.FieldDst] = zones, src, dst
				l = append(l, b)
			}
		}
	}
	return l
}

// serviceBox answers the box of all that is of that service.
func serviceBox(c api.Config, name string) api.Box {
	s := api.Service{To: maxPort} // so is what is of any service
	if name != anyName {
		s = c.Services[slices.IndexFunc(c.Services, func(s api.Service) bool { return s.Name == name })]
	}
	b := cuts.Full()
	b.F[api.FieldProto] = only(s.Proto)
	if s.Proto == 0 {
		b.F[api.FieldProto] = span(0, maxProto)
	}
	b.F[api.FieldSPort] = span(0, maxPort)
	b.F[api.FieldDPort] = span(s.From, s.To)
	return b
}

// addresses answers the ranges of that object.
func addresses(c api.Config, name string) []api.Range {
	if name == anyName {
		return []api.Range{cuts.Full().F[api.FieldSrc]}
	}
	return c.Objects[slices.IndexFunc(c.Objects, func(o api.Object) bool { return o.Name == name })].Ranges
}

// zoneRanges answers the ranges of FieldZones for which the rule r of c is.
func zoneRanges(c api.Config, r api.Rule) []api.Range {
	in, out := zoneNumber(c, r.In), zoneNumber(c, r.Out)
	switch {
	case in == none && out == none:
		return []api.Range{span(0, zonePair(maxZone, maxZone))}
	case in == none:
		// The zone to which it goes is the lower part of the number: those of several zones ahead of it do not follow one another.
		var l []api.Range
		for k := range maxZone + 1 {
			l = append(l, only(zonePair(k, out)))
		}
		return l
	case out == none:
		return []api.Range{span(zonePair(in, 0), zonePair(in, maxZone))}
	}
	return []api.Range{only(zonePair(in, out))}
}

// zoneNumber answers the number of the zone with that name; of any, which no zone is named, none.
func zoneNumber(c api.Config, name string) int {
	return slices.IndexFunc(c.Zones, func(z api.Zone) bool { return z.Name == name })
}

// zonePair answers the one number that tells from which zone to which.
func zonePair(in, out int) int { return in*(maxZone+1) + out }

// within tells whether n is one of the numbers from 0 to most.
func within(n, most int) bool { return 0 <= n && n <= most }

func span(from, to int) api.Range { return api.Range{From: addr.Of(from), To: addr.Of(to)} }

func only(n int) api.Range { return span(n, n) }
