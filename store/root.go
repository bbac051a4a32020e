package store

import (
	"iter"

	"sallyport/api"
	"sallyport/disk"
)

// How the values lie: each is cut into pieces, a sector a piece; the root, one sector, tells where they lie.
const (
	rootSector = 0
	maxPieces  = api.MaxValue / api.SectorSize
	stepBytes  = 8
	rootBytes  = stepBytes + api.MaxSlots*maxPieces
)

// place has the sectors of a value's pieces, in their order. No piece lies in the root's sector: its number ends the list, and a slot whose list is empty has no value.
type place [maxPieces]byte

// root tells what lies on a disk. It is written by one raw write, so that whatever it changes comes to pass at once.
type root struct {
	steps  uint64
	places [api.MaxSlots]place
}

// readRoot answers the disk's root; an empty one, if there is none yet.
func readRoot(d *disk.Disk) root {
	var r root
	s, _ := d.Read(rootSector)
	if len(s) != rootBytes {
		return r
	}
	for i := range stepBytes {
		r.steps |= uint64(s[i]) << (8 * i)
	}
	for slot := range api.MaxSlots {
		copy(r.places[slot][:], s[stepBytes+slot*maxPieces:])
	}
	return r
}

// text answers the root as readRoot takes it.
func (r root) text() string {
	b := make([]byte, 0, rootBytes)
	for i := range stepBytes {
		b = append(b, byte(r.steps>>(8*i)))
	}
	for _, p := range r.places {
		b = append(b, p[:]...)
	}
	return string(b)
}

// free tells the sectors in which nothing lies that the root needs, from the lowest on.
func (r root) free() iter.Seq[int] {
	return func(yield func(int) bool) {
		var used [1 << 8]bool // of all bytes, as a disk of somebody else may have numbers above the sectors'
		used[rootSector] = true
		for _, p := range r.places {
			for _, n := range p {
				used[n] = true
			}
		}
		for n := range api.MaxSectors {
			if !used[n] && !yield(n) {
				return
			}
		}
	}
}
