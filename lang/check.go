package lang

import (
	"slices"

	"sallyport/addr"
	"sallyport/api"
)

// Check answers what is wrong first with c.
func Check(c api.Config) api.Errno {
	for _, check := range [...]func(api.Config) api.Errno{
		checkCounts, checkZones, checkObjects, checkServices, checkLimits, checkRoutes, checkNats, checkRules, checkDefault,
	} {
		if e := check(c); e != api.OK {
			return e
		}
	}
	return api.OK
}

// first answers the first error that check tells of the things of l, in their order. It is told the things ahead of each, too.
func first[T any](l []T, check func(x T, ahead []T) api.Errno) api.Errno {
	for i, x := range l {
		if e := check(x, l[:i]); e != api.OK {
			return e
		}
	}
	return api.OK
}

// firstNamed does so of things that have names: each one's name goes ahead of what else is checked of it.
func firstNamed[T any](l []T, nameOf func(T) string, check func(x T, ahead []T) api.Errno) api.Errno {
	return first(l, func(x T, ahead []T) api.Errno {
		switch name := nameOf(x); {
		case !Name(name):
			return api.ErrName
		case has(ahead, nameOf, name):
			return api.ErrTwice
		}
		return check(x, ahead)
	})
}

func within(n, from, to int) bool { return from <= n && n <= to }

func checkCounts(c api.Config) api.Errno {
	if len(c.Zones) > api.MaxZones ||
		len(c.Objects) > api.MaxObjects || len(c.Services) > api.MaxObjects ||
		len(c.Limits) > api.MaxLimits ||
		len(c.Routes) > api.MaxRoutes ||
		len(c.Nats) > api.MaxNats ||
		len(c.Rules) > api.MaxRules {
		return api.ErrMany
	}
	return api.OK
}

func checkZones(c api.Config) api.Errno {
	return firstNamed(c.Zones, zoneName, func(z api.Zone, ahead []api.Zone) api.Errno {
		if !within(len(z.Ifaces), 1, api.MaxIfaces) {
			return api.ErrArg
		}
		return first(z.Ifaces, func(n int, these []int) api.Errno {
			switch {
			case !within(n, 0, api.MaxIfaces-1):
				return api.ErrNumber
			case slices.Contains(these, n) || haveIface(ahead, n):
				return api.ErrTwice
			}
			return api.OK
		})
	})
}

// haveIface tells whether one of the zones has that interface.
func haveIface(zones []api.Zone, iface int) bool {
	return slices.ContainsFunc(zones, func(z api.Zone) bool { return slices.Contains(z.Ifaces, iface) })
}

func checkObjects(c api.Config) api.Errno {
	return firstNamed(c.Objects, objectName, func(o api.Object, _ []api.Object) api.Errno {
		if !within(len(o.Ranges), 1, api.MaxRanges) {
			return api.ErrArg
		}
		return first(o.Ranges, func(r api.Range, _ []api.Range) api.Errno {
			_, e := addr.PrintRange(r)
			return e
		})
	})
}

func checkServices(c api.Config) api.Errno {
	return firstNamed(c.Services, serviceName, func(s api.Service, _ []api.Service) api.Errno {
		if !within(s.Proto, 0, maxProto) ||
			!within(s.From, 0, maxPort) || !within(s.To, s.From, maxPort) ||
			!hasPorts(s.Proto) && (s.From != 0 || s.To != maxPort) {
			return api.ErrNumber
		}
		return api.OK
	})
}

func checkLimits(c api.Config) api.Errno {
	return firstNamed(c.Limits, limitName, func(l api.Limit, _ []api.Limit) api.Errno {
		if !within(l.Rate, 0, api.MaxBurst) || !within(l.Burst, 1, api.MaxBurst) {
			return api.ErrNumber
		}
		return api.OK
	})
}

func checkRoutes(c api.Config) api.Errno {
	return first(c.Routes, func(r api.Route, ahead []api.Route) api.Errno {
		switch to, e := addr.Prefix(r.To.From, r.Bits); {
		case e != api.OK || to != r.To:
			return api.ErrRange
		case !haveIface(c.Zones, r.Iface):
			return api.ErrNumber
		case has(ahead, routeTo, r.To):
			return api.ErrTwice
		}
		return api.OK
	})
}

func checkNats(c api.Config) api.Errno {
	return first(c.Nats, func(n api.Nat, ahead []api.Nat) api.Errno {
		switch n.Kind {
		case api.NatSource:
			return checkSource(c, n)
		case api.NatDest:
			return checkDest(c, n)
		case api.NatStatic:
			return checkStatic(c, n, ahead)
		}
		return api.ErrArg
	})
}

func checkSource(c api.Config, n api.Nat) api.Errno {
	switch {
	case !has(c.Zones, zoneName, n.Zone) || !hasOrAny(c.Objects, objectName, n.Object):
		return api.ErrName
	case !within(n.From, 1, maxPort) || !within(n.To, n.From, maxPort):
		return api.ErrNumber
	case n.Service != "" || n.Inner != api.Addr{}:
		return api.ErrArg
	}
	return api.OK
}

func checkDest(c api.Config, n api.Nat) api.Errno {
	switch {
	case !hasOrAny(c.Services, serviceName, n.Service):
		return api.ErrName
	case addr.Is4(n.Outer) != addr.Is4(n.Inner):
		return api.ErrAddr
	case !within(n.From, 0, maxPort):
		return api.ErrNumber
	case n.Zone != "" || n.Object != "" || n.To != 0:
		return api.ErrArg
	}
	return api.OK
}

func checkStatic(c api.Config, n api.Nat, ahead []api.Nat) api.Errno {
	clashes := func(x api.Nat) bool {
		return x.Kind == api.NatStatic && (x.Outer == n.Outer || x.Inner == n.Inner)
	}
	switch {
	case !has(c.Zones, zoneName, n.Zone):
		return api.ErrName
	case addr.Is4(n.Outer) != addr.Is4(n.Inner):
		return api.ErrAddr
	case slices.ContainsFunc(ahead, clashes):
		return api.ErrTwice
	case n.Object != "" || n.Service != "" || n.From != 0 || n.To != 0:
		return api.ErrArg
	}
	return api.OK
}

func checkRules(c api.Config) api.Errno {
	return first(c.Rules, func(r api.Rule, _ []api.Rule) api.Errno {
		if !hasRuleNames(c, r) {
			return api.ErrName
		}
		// With "any" no service is found: its protocol is not TCP.
		service, _ := find(c.Services, serviceName, r.Service)
		if !has(actions(), meaning.value, r.Action) ||
			r.Action != api.Accept && (r.Limit != "" || r.Proxy) ||
			r.Proxy && service.Proto != api.ProtoTCP {
			return api.ErrArg
		}
		return api.OK
	})
}

// hasRuleNames tells whether what the rule names is there.
func hasRuleNames(c api.Config, r api.Rule) bool {
	return hasOrAny(c.Zones, zoneName, r.In) && hasOrAny(c.Zones, zoneName, r.Out) &&
		hasOrAny(c.Objects, objectName, r.Src) && hasOrAny(c.Objects, objectName, r.Dst) &&
		hasOrAny(c.Services, serviceName, r.Service) &&
		(r.Limit == "" || has(c.Limits, limitName, r.Limit))
}

func checkDefault(c api.Config) api.Errno {
	if !has(defaults(), meaning.value, c.Default) {
		return api.ErrArg
	}
	return api.OK
}
