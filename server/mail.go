package server

import (
	"cmp"
	"slices"
)

// place is where bytes go: a connection, or an instance's host.
type place struct {
	host bool
	to   uint32
}

// mail is what goes out in one call, by where it goes.
type mail map[place]*Send

// at is what goes to a place. It is among what is answered from then on, so that only one to which something goes, or that is closed, is asked for.
func (m mail) at(p place) *Send {
	if m[p] == nil {
		m[p] = &Send{Host: p.host, To: p.to}
	}
	return m[p]
}

// put lets bytes go to a place, behind those that go there already.
func (m mail) put(p place, b []byte) {
	x := m.at(p)
	x.Bytes = append(x.Bytes, b...)
}

// sends are all that goes out, connections ahead of hosts, both rising.
func (m mail) sends() []Send {
	var conns, hosts []Send
	for _, x := range m {
		if x.Host {
			hosts = append(hosts, *x)
		} else {
			conns = append(conns, *x)
		}
	}
	slices.SortFunc(conns, rising)
	slices.SortFunc(hosts, rising)
	return append(conns, hosts...)
}

// rising is which of two sends stands ahead of the other.
func rising(a, b Send) int { return cmp.Compare(a.To, b.To) }
