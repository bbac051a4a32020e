package nat

import (
	"sallyport/addr"
	"sallyport/api"
	"sallyport/flow"
	"sallyport/rules"
)

// none is the place, the interface or the zone that there is not.
const none = -1

// firstPort is the first port that a hairpin's flow may get.
const firstPort = 1024

// draft is a plan that is being made, step by step; a step answers a reason why there is none.
type draft struct {
	Plan
	config   api.Config
	in       int
	taken    map[api.Key]struct{}
	dest     int  // the place of the translation that tells the destination
	looks    bool // whether a port is looked for
	from, to int  // among these
}

func newDraft(c api.Config, in int, k api.Key, taken []api.Key) *draft {
	d := &draft{config: c, in: in, taken: make(map[api.Key]struct{}, len(taken))}
	for _, t := range taken {
		d.taken[t] = struct{}{}
	}
	d.Open, d.Home = k, flow.Turned(k)
	return d
}

// judge finds whither the flow goes. Of protocols without ports rules.Dest leaves the port as it is.
func (d *draft) judge() int {
	d.Judge = d.Open
	d.Judge.Dst, d.Judge.DPort, d.dest = rules.Dest(d.config, d.Open)
	return api.DropNone
}

// way finds by which interface it goes there.
func (d *draft) way() int {
	d.Iface, d.Zone = rules.Route(d.config, d.Judge.Dst)
	switch {
	case d.Iface == none:
		return api.DropRoute
	case d.Zone == none:
		return api.DropZone
	}
	return api.DropNone
}

// source finds as whose flow it goes out, and which ports it may get there.
func (d *draft) source() int {
	d.Out = d.Judge
	i := rules.Source(d.config, d.Zone, d.Judge)
	if i == none {
		d.hairpin()
		return api.DropNone
	}
	n := d.config.Nats[i]
	d.Out.Src = n.Outer
	if n.Kind == api.NatSource {
		d.look(n.From, n.To)
	}
	return api.DropNone
}

// hairpin has a flow that goes back into its own zone go out as the gateway's: else the answer would not come by it.
func (d *draft) hairpin() {
	if d.dest == none || d.Zone != d.in {
		return
	}
	own := d.config.Zones[d.Zone].Addr
	if addr.Is4(own) == addr.Is4(d.Open.Src) {
		d.Out.Src = own
		d.look(firstPort, maxPort)
	}
}

// look asks for a port among these, of a protocol that has some.
func (d *draft) look(from, to int) {
	switch d.Open.Proto {
	case api.ProtoTCP, api.ProtoUDP, api.ProtoICMP, api.ProtoICMP6:
		d.looks, d.from, d.to = true, from, to
	}
}

// port finds the port that it gets, if one is looked for, so that what comes back can be told from all else.
func (d *draft) port() int {
	if !d.looks {
		return d.back()
	}
	for i := 0; ; i++ {
		p, ok := Port(d.from, d.to, d.Open.SPort, i)
		if !ok {
			return api.DropPort
		}
		d.give(p)
		if reason := d.back(); reason == api.DropNone {
			return reason
		}
	}
}

// give has it go out with that port. Of an echo, both ports are its one identifier.
func (d *draft) give(port int) {
	d.Out.SPort = port
	if d.Out.Proto == api.ProtoICMP || d.Out.Proto == api.ProtoICMP6 {
		d.Out.DPort = port
	}
}

// back tells the key of what comes back, which must be nobody's.
func (d *draft) back() int {
	d.Back = flow.Turned(d.Out)
	if _, ok := d.taken[d.Back]; ok || d.Back == d.Open {
		return api.DropPort
	}
	return api.DropNone
}
