package wal_test

import (
	"bytes"
	"encoding/binary"
	"fmt"
	"hash/crc32"
	"slices"
	"testing"

	"blotter/api"
	"blotter/block"
	"blotter/wal"
)

// partSize is how many bytes a part has at most, maxRecord a record, as the document says.
const (
	partSize  = 492
	maxRecord = 1 << 18
)

// show tells anything, not all of it.
func show(x any) string {
	s := fmt.Sprint(x)
	return s[:min(len(s), 300)]
}

// noise are so many bytes, others for each seed.
func noise(n, seed int) []byte {
	b := make([]byte, n)
	x := uint64(seed)*2862933555777941757 + 3037000493
	for i := range b {
		x = x*6364136223846793005 + 1442695040888963407
		b[i] = byte(x >> 56)
	}
	return b
}

// chance draws numbers, others for each seed.
type chance struct{ x uint64 }

func (c *chance) below(n int) int {
	c.x = c.x*6364136223846793005 + 1442695040888963407
	return int(c.x >> 33 % uint64(n))
}

// part is what a sector tells, whether it may be or not.
type part struct {
	epoch, record, part, parts, size int
	bytes                            []byte
}

// sector lays it down, as the document's table says.
func (p part) sector() []byte {
	b := binary.BigEndian.AppendUint64(nil, uint64(p.epoch))[2:]
	b = binary.BigEndian.AppendUint32(b, uint32(p.record))
	b = binary.BigEndian.AppendUint16(b, uint16(p.part))
	b = binary.BigEndian.AppendUint16(b, uint16(p.parts))
	b = binary.BigEndian.AppendUint16(b, uint16(p.size))
	b = append(b, p.bytes...)
	b = append(b, make([]byte, 508-len(b))...)
	return binary.LittleEndian.AppendUint32(b, crc32.ChecksumIEEE(b))
}

// partsOf are the parts of a record.
func partsOf(epoch, record int, b []byte) []part {
	l := []part{{epoch, record, 0, 0, 0, nil}}
	for i, x := range b {
		if i > 0 && i%partSize == 0 {
			l = append(l, part{epoch, record, len(l), 0, 0, nil})
		}
		last := &l[len(l)-1]
		last.bytes = append(last.bytes, x)
		last.size++
	}
	for i := range l {
		l[i].parts = len(l)
	}
	return l
}

// laid are the sectors of records of an epoch, from the record 0 on.
func laid(epoch int, records ...[]byte) [][]byte {
	var l [][]byte
	for n, b := range records {
		for _, p := range partsOf(epoch, n, b) {
			l = append(l, p.sector())
		}
	}
	return l
}

// partIn is what a sector tells, if it is whole, and nothing stands behind the part's bytes.
func partIn(sector []byte) (part, bool) {
	at := func(from, to int) int {
		return int(binary.BigEndian.Uint64(append(make([]byte, 8-(to-from)), sector[from:to]...)))
	}
	p := part{at(0, 6), at(6, 10), at(10, 12), at(12, 14), at(14, 16), nil}
	if p.size > partSize || crc32.ChecksumIEEE(sector[:508]) != binary.LittleEndian.Uint32(sector[508:]) || len(bytes.Trim(sector[16+p.size:508], "\x00")) > 0 {
		return part{}, false
	}
	p.bytes = sector[16 : 16+p.size]
	return p, true
}

// recordIn is a record that begins an area, if it is there.
func recordIn(area [][]byte, epoch, record int) ([]byte, int, bool) {
	first, ok := partIn(area[0])
	if !ok || first.parts == 0 || first.parts > len(area) {
		return nil, 0, false
	}
	var b []byte
	for i, sector := range area[:first.parts] {
		p, ok := partIn(sector)
		if !ok || p.epoch != epoch || p.record != record || p.part != i || p.parts != first.parts {
			return nil, 0, false
		}
		b = append(b, p.bytes...)
	}
	if len(b) > maxRecord || !slices.EqualFunc(laidAs(epoch, record, b), area[:first.parts], bytes.Equal) {
		return nil, 0, false
	}
	return b, first.parts, true
}

// laidAs are the sectors of one record.
func laidAs(epoch, record int, b []byte) [][]byte {
	var l [][]byte
	for _, p := range partsOf(epoch, record, b) {
		l = append(l, p.sector())
	}
	return l
}

// recordsIn are the records of an epoch in an area, and how many sectors they take.
func recordsIn(area [][]byte, epoch int) ([][]byte, int) {
	var l [][]byte
	used := 0
	for used < len(area) {
		b, many, ok := recordIn(area[used:], epoch, len(l))
		if !ok {
			break
		}
		l = append(l, b)
		used += many
	}
	return l, used
}

// sectorsOf are so many sectors of a disk.
func sectorsOf(h *block.Hand, from, many int) [][]byte {
	var l [][]byte
	for i := range many {
		l = append(l, h.Sector(from+i))
	}
	return l
}

// plant puts sectors onto a disk.
func plant(h *block.Hand, from int, area [][]byte) {
	for i, b := range area {
		h.Plant(from+i, b)
	}
}

// same tells whether rows of bytes are the same.
func same(a, b [][]byte) bool { return slices.EqualFunc(a, b, bytes.Equal) }

// told tells rows of bytes by their lengths and first bytes.
func told(l [][]byte) string {
	var s []string
	for _, b := range l {
		s = append(s, fmt.Sprintf("%d:%x", len(b), b[:min(len(b), 8)]))
	}
	return show(s)
}

// open is a log that must come about.
func open(t *testing.T, h *block.Hand, from, many, epoch int) (*wal.Log, [][]byte) {
	t.Helper()
	l, records, err := wal.Open(h.Disk(), from, many, epoch)
	if l == nil || err != nil {
		t.Fatal(from, many, epoch, l, err)
	}
	return l, records
}

// appended appends records, each of which must be taken.
func appended(t *testing.T, l *wal.Log, records ...[]byte) {
	t.Helper()
	for i, b := range records {
		if err := l.Append(b); err != nil {
			t.Fatal(i, len(b), err)
		}
	}
}

// is tells whether that is the error, and no other: nil, where it is OK.
func is(err error, e api.Errno) bool { return api.Number(err) == e && (err == nil) == (e == api.OK) }
