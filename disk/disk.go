// Package disk is layer 1: see shared/doc/01-disk.md.
package disk

import (
	"strings"

	"sallyport/api"
)

// Disk has sectors; its power may go.
type Disk struct {
	sectors [api.MaxSectors]string
	writes  int
	cut     bool // a cut is ordered
	left    int  // the writes that are left of it
	dead    bool // the power is gone
}

// New answers a disk with empty sectors, and with power.
func New() *Disk { return &Disk{} }

// Write lays s into the sector i, all of it at once, or nothing.
func (d *Disk) Write(i int, s string) api.Errno {
	if !hasSector(i) {
		return api.ErrSector
	}
	if len(s) > api.SectorSize {
		return api.ErrSize
	}
	if !d.spend() {
		return api.ErrDead
	}
	// A copy: a piece of the caller's text would keep all of that text in memory.
	d.sectors[i] = strings.Clone(s)
	d.writes++
	return api.OK
}

// Read answers the sector i; it needs no power, so that what a cut has left can be looked at.
func (d *Disk) Read(i int) (string, api.Errno) {
	if !hasSector(i) {
		return "", api.ErrSector
	}
	return d.sectors[i], api.OK
}

// Writes tells how many raw writes were made with OK.
func (d *Disk) Writes() int { return d.writes }

// Cut orders that the power goes behind n more writes.
func (d *Disk) Cut(n int) {
	d.cut = true
	d.left = max(n, 0)
}

// Power brings the power back, and takes back what was ordered.
func (d *Disk) Power() {
	d.dead = false
	d.cut = false
}

// Dead tells whether the power is gone.
func (d *Disk) Dead() bool { return d.dead }

// Clone answers a disk like this one. The sectors are an array: copying the disk copies them all.
func (d *Disk) Clone() *Disk {
	c := *d
	return &c
}

// spend takes one write off the ordered cut, if there is one, and tells whether there was power for it.
// The power goes in the first write too many, not with the last one that is left: so Dead is true only when a write was refused for it.
func (d *Disk) spend() bool {
	if d.cut && d.left == 0 {
		d.dead = true
	}
	if d.dead {
		return false
	}
	if d.cut {
		d.left--
	}
	return true
}

func hasSector(i int) bool { return i >= 0 && i < api.MaxSectors }
