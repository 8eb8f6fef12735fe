package wal

import (
	"bytes"
	"iter"
	"slices"

	"blotter/api"
	"blotter/block"
	"blotter/sum"
)

// Where what stands in a part's sector.
const (
	partsAt = 12 // how many parts the record has
	sizeAt  = 14 // how many bytes the part has
	bytesAt = 16
	sumAt   = bytesAt + api.LogPart
)

// place is where a part belongs.
type place struct{ epoch, record, part, parts int }

// sector is what lies on the disk of a part that belongs there.
func (p place) sector(part []byte) []byte {
	b := slices.Concat(number(p.epoch, 6), number(p.record, 4), number(p.part, 2), number(p.parts, 2), number(len(part), 2), part)
	return sum.Seal(append(b, make([]byte, sumAt-len(b))...))
}

// number is a number in so many bytes. None that a place has is too great for them.
func number(n, size int) []byte {
	b, _ := sum.Number(n, size)
	return b
}

// sectors reads an area from its first sector on, as far as is asked for.
func sectors(d *block.Disk, from, many int) iter.Seq2[[]byte, error] {
	return func(yield func(sector []byte, err error) bool) {
		for i := range many {
			sector, err := d.Read(from + i)
			if !yield(sector, refused("read", err)) {
				return
			}
		}
	}
}

// found are records that are put together sector by sector.
type found struct {
	records [][]byte
	used    int    // sectors that they take
	next    place  // of the part that comes next
	record  []byte // its record, as far as it is there
}

// take takes the next sector, and tells whether it is the part that comes next.
func (f *found) take(sector []byte) bool {
	part, parts := read(sector)
	if f.next.part == 0 {
		f.next.parts = parts
	}
	// The sector is held against what would be laid down there: so nothing in it can be otherwise unseen.
	if !bytes.Equal(sector, f.next.sector(part)) || !f.fits(len(part)) {
		return false
	}
	f.record = append(f.record, part...)
	f.next.part++
	if f.next.part == f.next.parts {
		f.records = append(f.records, f.record)
		f.used += f.next.parts
		f.next, f.record = place{epoch: f.next.epoch, record: f.next.record + 1}, nil
	}
	return true
}

// fits tells whether the next part may have so many bytes.
func (f *found) fits(size int) bool {
	many := f.next.part + 1
	full := size == api.LogPart
	last := many == f.next.parts
	// Where the bytes take another count of sectors, the part is empty behind others, or the record too long.
	return (full || last) && Sectors(len(f.record)+size) == many
}

// read is the part that lies in a sector, and how many its record has. Of a part that tells of too many bytes none are read: so it is otherwise than what would be laid down.
func read(sector []byte) (part []byte, parts int) {
	parts, _ = sum.Read(sector, partsAt, sizeAt-partsAt)
	size, _ := sum.Read(sector, sizeAt, bytesAt-sizeAt)
	if size <= api.LogPart {
		part = sector[bytesAt : bytesAt+size]
	}
	return part, parts
}
