package wal_test

import (
	"bytes"
	"errors"
	"slices"
	"testing"

	"blotter/api"
	"blotter/block"
	"blotter/wal"
)

// lowestInt is the least number that there is.
const lowestInt = -api.MaxInt - 1

// stands tells whether a log answers these numbers.
func stands(l *wal.Log, count, room int, dead bool) bool {
	return l.Count() == count && l.Room() == room && l.Dead() == dead
}

func TestP121Examples(t *testing.T) {
	for n, want := range map[int]int{
		0: 1, 492: 1, 493: 2, -1: 0, 1: 1, 491: 1, 984: 2, 985: 3, 1000: 3, 2000: 5, 261744: 532, 261745: 533, 262143: 533, 262144: 533, 262145: 0, 262236: 0, 262237: 0,
		-2: 0, -492: 0, -493: 0, lowestInt: 0, api.MaxInt: 0, api.MaxInt - 490: 0, 1 << 32: 0, 1<<32 + 1: 0, 1 << 62: 0,
	} {
		if got := wal.Sectors(n); got != want {
			t.Error(n, got)
		}
	}
}

func TestP121All(t *testing.T) {
	want := 1
	for n := range maxRecord + 1 {
		if n > want*partSize {
			want++
		}
		if got := wal.Sectors(n); got != want {
			t.Fatal(n, got)
		}
	}
	for n := 1; n <= 3000; n++ {
		if wal.Sectors(-n) != 0 || wal.Sectors(maxRecord+n) != 0 {
			t.Fatal(n)
		}
	}
}

// TestExamples are the chapter's.
func TestExamples(t *testing.T) {
	h := block.New(10)
	l, records := open(t, h, 2, 8, 1)
	if len(records) != 0 || !stands(l, 0, 8, false) {
		t.Error(told(records), l.Count(), l.Room())
	}
	a, thousand := []byte("a"), noise(1000, 1)
	appended(t, l, a, thousand)
	if !stands(l, 2, 4, false) {
		t.Error(l.Count(), l.Room(), l.Dead())
	}
	if err := l.Append(noise(2000, 2)); err != api.ErrWalFull {
		t.Error(err)
	}
	again, records := open(t, h, 2, 8, 2)
	if len(records) != 0 || !stands(again, 0, 8, false) {
		t.Error(told(records))
	}
	again, records = open(t, h, 2, 8, 1)
	if !same(records, [][]byte{a, thousand}) || !stands(again, 2, 4, false) {
		t.Error(told(records))
	}
	for _, x := range [][3]int{{9, 2, 1}, {0, 1, 0}} {
		if l, records, err := wal.Open(h.Disk(), x[0], x[1], x[2]); l != nil || records != nil || err != api.ErrArg {
			t.Error(x, l, records, err)
		}
	}
}

// numbers are such as an area or an epoch may have, or may not.
func numbers() []int {
	return []int{lowestInt, lowestInt + 1, -1 << 40, -11, -10, -1, 0, 1, 2, 9, 10, 11, 1<<32 + 1, 1<<40 - 1, 1 << 40, 1<<40 + 1, 1 << 62, api.MaxInt - 9, api.MaxInt - 1, api.MaxInt}
}

// isArea tells whether that is an area of a disk.
func isArea(sectors, from, many int) bool {
	return from >= 0 && many >= 1 && from < sectors && many <= sectors-from
}

func TestP122WhatMayBe(t *testing.T) {
	for _, sectors := range []int{-1, 0, 1, 10, 1 << 40, api.MaxInt} {
		for _, down := range []bool{false, true} {
			h := block.New(sectors)
			if down {
				h.Arm(0, false)
				h.Disk().Sync()
			}
			for _, from := range numbers() {
				for _, many := range numbers() {
					for _, epoch := range numbers() {
						want := api.OK
						if !isArea(max(sectors, 0), from, many) || epoch < 1 || epoch > 1<<40 {
							want = api.ErrArg
						} else if down {
							want = api.ErrDown
						}
						l, records, err := wal.Open(h.Disk(), from, many, epoch)
						if !is(err, want) || len(records) > 0 || (l == nil) == (want == api.OK) {
							t.Fatal(sectors, down, from, many, epoch, l, records, err)
						}
						if l != nil && !stands(l, 0, many, false) {
							t.Fatal(sectors, from, many, epoch, l.Count(), l.Room(), l.Dead())
						}
					}
				}
			}
		}
	}
}

// TestP122AtTheEnds: areas of which each sector is used, the first and the last of the disk among them.
func TestP122AtTheEnds(t *testing.T) {
	for from := range 6 {
		for many := 1; many <= 6-from; many++ {
			h := block.New(6)
			l, _ := open(t, h, from, many, 1<<40)
			for i := range many {
				appended(t, l, noise(partSize, i))
				if !stands(l, i+1, many-i-1, false) {
					t.Fatal(from, many, i, l.Count(), l.Room())
				}
			}
			if err := l.Append(nil); err != api.ErrWalFull || !stands(l, many, 0, false) {
				t.Fatal(from, many, err)
			}
			for i := range 6 {
				want := make([]byte, 512)
				if i >= from && i < from+many {
					want = part{1 << 40, i - from, 0, 1, partSize, noise(partSize, i-from)}.sector()
				}
				if !bytes.Equal(h.Sector(i), want) {
					t.Fatal(from, many, i, "is otherwise")
				}
			}
		}
	}
}

// TestP122WritesNothing: opening is no act.
func TestP122WritesNothing(t *testing.T) {
	h := block.New(10)
	plant(h, 2, laid(3, noise(5, 1), noise(700, 2)))
	was := sectorsOf(h, 0, 10)
	h.Arm(0, false)
	for _, x := range [][3]int{{2, 8, 3}, {2, 8, 4}, {2, 2, 3}, {3, 4, 3}, {9, 1, 3}, {0, 10, 1}, {-1, 8, 3}, {2, 9, 3}, {2, 8, 0}} {
		wal.Open(h.Disk(), x[0], x[1], x[2])
		if h.Down() || h.Waiting() > 0 || !same(sectorsOf(h, 0, 10), was) {
			t.Fatal(x, "the disk is otherwise")
		}
	}
	l, _ := open(t, h, 2, 8, 3)
	l.Count()
	l.Room()
	l.Dead()
	if h.Down() || !is(l.Append(nil), api.ErrDown) {
		t.Error("only an act takes it down")
	}
}

// TestP122GoesOn: a log that is opened stands behind the records that there are, and those alone.
func TestP122GoesOn(t *testing.T) {
	var records [][]byte
	h := block.New(60)
	used := 0
	for i, size := range []int{0, 3, 492, 493, 0, 984, 985, 2000, 1} {
		l, found := open(t, h, 5, 50, 7)
		if !same(found, records) || !stands(l, i, 50-used, false) {
			t.Fatal(i, told(found), l.Count(), l.Room())
		}
		b := noise(size, i)
		appended(t, l, b)
		records = append(records, b)
		used += wal.Sectors(size)
	}
	if want := laid(7, records...); !same(sectorsOf(h, 5, used), want) {
		t.Error("the sectors are others")
	}
	// Behind a record whose parts are not all there, the log goes on where that began.
	h.Plant(5+used-1, nil)
	plant(h, 5+used-1, laidAs(7, len(records)-1, noise(1200, 1))[:2])
	l, found := open(t, h, 5, 50, 7)
	if !same(found, records[:len(records)-1]) || !stands(l, len(records)-1, 50-used+1, false) {
		t.Fatal(told(found), l.Count(), l.Room())
	}
	appended(t, l, noise(100, 50))
	if _, found = open(t, h, 5, 50, 7); !same(found, append(records[:len(records)-1], noise(100, 50))) {
		t.Error(told(found))
	}
}

// holdArea holds what Open finds in an area against the words.
func holdArea(t *testing.T, area [][]byte, epoch int, why ...any) {
	t.Helper()
	h := block.New(len(area) + 3)
	h.Plant(0, part{epoch, 0, 0, 1, 1, []byte{1}}.sector())
	plant(h, 1, area)
	h.Plant(1+len(area), part{epoch, 0, 0, 1, 1, []byte{1}}.sector())
	want, used := recordsIn(area, epoch)
	l, found := open(t, h, 1, len(area), epoch)
	if !same(found, want) || !stands(l, len(want), len(area)-used, false) {
		t.Fatal(why, told(found), l.Count(), l.Room(), "not", told(want), used)
	}
}

// others are parts that stand where the part p is to stand, and are otherwise.
func others(p part) map[string]part {
	with := func(change func(x *part)) part {
		x := p
		x.bytes = slices.Clone(p.bytes)
		change(&x)
		return x
	}
	return map[string]part{
		"epoch less":     with(func(x *part) { x.epoch-- }),
		"epoch more":     with(func(x *part) { x.epoch++ }),
		"epoch high":     with(func(x *part) { x.epoch += 1 << 40 }),
		"epoch highest":  with(func(x *part) { x.epoch += 1 << 47 }),
		"record less":    with(func(x *part) { x.record-- }),
		"record more":    with(func(x *part) { x.record++ }),
		"record high":    with(func(x *part) { x.record += 1 << 31 }),
		"part less":      with(func(x *part) { x.part-- }),
		"part more":      with(func(x *part) { x.part++ }),
		"part high":      with(func(x *part) { x.part += 1 << 15 }),
		"parts less":     with(func(x *part) { x.parts-- }),
		"parts more":     with(func(x *part) { x.parts++ }),
		"parts none":     with(func(x *part) { x.parts = 0 }),
		"parts many":     with(func(x *part) { x.parts = 1<<16 - 1 }),
		"parts high":     with(func(x *part) { x.parts += 1 << 15 }),
		"size less":      with(func(x *part) { x.size-- }),
		"size 0":         with(func(x *part) { x.size = 0 }),
		"size too great": with(func(x *part) { x.size = 493 }),
		"size 496":       with(func(x *part) { x.size = 496 }),
		"size 497":       with(func(x *part) { x.size = 497 }),
		"size greatest":  with(func(x *part) { x.size = 1<<16 - 1 }),
		"size high":      with(func(x *part) { x.size += 1 << 15 }),
		"shorter":        with(func(x *part) { x.size, x.bytes = max(0, x.size-1), x.bytes[:max(0, x.size-1)] }),
		"empty":          with(func(x *part) { x.size, x.bytes = 0, nil }),
		"of one byte":    with(func(x *part) { x.size, x.bytes = 1, []byte{7} }),
		"full":           with(func(x *part) { x.size, x.bytes = partSize, noise(partSize, 4) }),
		"bytes behind": with(func(x *part) {
			x.bytes = append(x.bytes, make([]byte, partSize-len(x.bytes))...)
			x.bytes[partSize-1] = 1
		}),
		"a byte behind":   with(func(x *part) { x.bytes = append(x.bytes, 1)[:min(partSize, x.size+1)] }),
		"noughts behind":  with(func(x *part) { x.bytes = append(x.bytes, 0)[:min(partSize, x.size+1)] }),
		"as it is":        p,
		"other bytes":     with(func(x *part) { x.bytes = noise(x.size, 99) }),
		"one byte longer": with(func(x *part) { x.bytes = append(x.bytes, 5)[:min(partSize, x.size+1)]; x.size = len(x.bytes) }),
	}
}

// TestP122Otherwise: one sector of an area is otherwise.
func TestP122Otherwise(t *testing.T) {
	records := [][]byte{noise(10, 1), noise(1300, 2), {}, noise(984, 3), noise(492, 4), noise(493, 5), noise(30, 6)}
	var parts []part
	for n, b := range records {
		parts = append(parts, partsOf(5, n, b)...)
	}
	area := laid(5, records...)
	for i, p := range parts {
		for why, x := range others(p) {
			l := slices.Clone(area)
			l[i] = x.sector()
			holdArea(t, l, 5, i, why)
			holdArea(t, l[:i+1], 5, i, why)
		}
		for n := range 512 {
			l := slices.Clone(area)
			l[i] = bytes.Clone(l[i])
			l[i][n] ^= 1 << (n % 8)
			holdArea(t, l, 5, i, "a bit of byte", n)
		}
		high := bytes.Clone(area[i])
		slices.Reverse(high[508:])
		holdArea(t, slices.Replace(slices.Clone(area), i, i+1, high), 5, i, "the sum's highest byte first")
		holdArea(t, slices.Replace(slices.Clone(area), i, i+1, make([]byte, 512)), 5, i, "noughts")
		holdArea(t, slices.Delete(slices.Clone(area), i, i+1), 5, i, "left out")
		holdArea(t, slices.Insert(slices.Clone(area), i, area[i]), 5, i, "twice")
		holdArea(t, area[:i+1], 5, i, "the area ends")
		holdArea(t, slices.Concat(area[i:], area[:i]), 5, i, "turned")
	}
}

// TestP122WhichEnd tells what is found in words, not by the model: what ends the records, and what does not.
func TestP122WhichEnd(t *testing.T) {
	full := noise(partSize, 1)
	for i, x := range []struct {
		area  []part
		found int
	}{
		{[]part{{1, 0, 0, 1, 0, nil}}, 1},
		{[]part{{1, 0, 0, 2, 492, full}, {1, 0, 1, 2, 0, nil}}, 0},
		{[]part{{1, 0, 0, 2, 0, nil}, {1, 0, 1, 2, 5, full[:5]}}, 0},
		{[]part{{1, 0, 0, 2, 491, full[:491]}, {1, 0, 1, 2, 5, full[:5]}}, 0},
		{[]part{{1, 0, 0, 2, 492, full}, {1, 0, 1, 2, 1, full[:1]}}, 1},
		{[]part{{1, 0, 0, 2, 492, full}, {1, 0, 1, 2, 492, full}}, 1},
		{[]part{{1, 0, 0, 2, 492, full}, {1, 0, 1, 3, 492, full}, {1, 0, 2, 3, 1, full[:1]}}, 0},
		{[]part{{1, 0, 0, 3, 492, full}, {1, 0, 1, 2, 492, full}}, 0},
		{[]part{{1, 0, 0, 0, 492, full}, {1, 0, 1, 0, 492, full}}, 0},
		{[]part{{1, 0, 0, 0, 0, nil}, {1, 0, 0, 1, 0, nil}}, 0},
		{[]part{{1, 0, 0, 1, 492, full}, {1, 0, 1, 1, 5, full[:5]}}, 1},
		{[]part{{1, 0, 0, 1, 3, full[:3]}, {1, 1, 0, 1, 3, full[:3]}, {1, 2, 0, 2, 492, full}}, 2},
		{[]part{{1, 0, 0, 1, 3, full[:3]}, {1, 2, 0, 1, 3, full[:3]}}, 1},
		{[]part{{1, 1, 0, 1, 3, full[:3]}}, 0},
		{[]part{{1, 0, 1, 1, 3, full[:3]}}, 0},
		{[]part{{1, 0, 1, 2, 3, full[:3]}}, 0},
		{[]part{{2, 0, 0, 1, 3, full[:3]}, {1, 0, 0, 1, 3, full[:3]}}, 0},
		{[]part{{1, 0, 0, 1, 3, full[:3]}, {2, 1, 0, 1, 3, full[:3]}, {1, 1, 0, 1, 3, full[:3]}}, 1},
		{[]part{{1, 0, 0, 1, 3, full[:4]}}, 0},
		{[]part{{1, 0, 0, 1, 3, append(full[:3:3], 0, 0, 0)}}, 1},
		{[]part{{1, 0, 0, 1, 493, full}}, 0},
		{[]part{{1, 0, 0, 1, 65535, full}}, 0},
	} {
		h := block.New(len(x.area))
		for at, p := range x.area {
			h.Plant(at, p.sector())
		}
		l, found := open(t, h, 0, len(x.area), 1)
		if len(found) != x.found || l.Count() != x.found {
			t.Error(i, told(found), l.Count())
		}
	}
}

// TestP122LongRecords: a record is at most MaxRecord bytes, whatever its parts tell.
func TestP122LongRecords(t *testing.T) {
	for _, x := range []struct{ size, found int }{{maxRecord - 1, 1}, {maxRecord, 1}, {maxRecord + 1, 0}, {533 * partSize, 0}, {533*partSize + 1, 0}, {600 * partSize, 0}} {
		b := noise(x.size, x.size)
		area := append(laid(9, b), part{9, 1, 0, 1, 1, []byte{1}}.sector())
		h := block.New(len(area))
		plant(h, 0, area)
		l, found := open(t, h, 0, len(area), 9)
		if x.found == 0 && (len(found) != 0 || !stands(l, 0, len(area), false)) {
			t.Error(x.size, told(found))
		}
		if x.found == 1 && (!same(found, [][]byte{b, {1}}) || !stands(l, 2, 0, false)) {
			t.Error(x.size, told(found))
		}
	}
}

// TestP122AnyArea holds what is found in areas of sundry sectors against the words.
func TestP122AnyArea(t *testing.T) {
	c := chance{1}
	full := noise(partSize, 1)
	for i := range 3000 {
		var area [][]byte
		record, at := 0, 0
		parts := 1 + c.below(3)
		for range 1 + c.below(9) {
			p := part{3, record, at, parts, partSize, full}
			if at == parts-1 {
				p.size = []int{0, 1, 7, 491, 492}[c.below(5)]
			}
			switch c.below(25) {
			case 0:
				p.size = c.below(partSize)
			case 1:
				p.parts = c.below(4)
			case 2:
				p.epoch = c.below(5)
			case 3:
				p.record, p.part = c.below(3), c.below(3)
			}
			p.bytes = full[:p.size]
			area = append(area, p.sector())
			at++
			if at == parts {
				record, at, parts = record+1, 0, 1+c.below(3)
			}
		}
		holdArea(t, area, 3, i)
	}
}

// TestP123Sectors: what lies on the disk behind an Append, byte by byte; in the order in which it is written.
func TestP123Sectors(t *testing.T) {
	for _, epoch := range []int{1, 2, 255, 256, 0x0102030405, 1<<40 - 1, 1 << 40} {
		for i, sizes := range [][]int{{0}, {1}, {491}, {492}, {493}, {984}, {985}, {5000}, {0, 0, 1, 492, 493, 0, 3000, 2}} {
			h := block.New(40)
			l, _ := open(t, h, 3, 30, epoch)
			var records [][]byte
			for n, size := range sizes {
				records = append(records, noise(size, n+i))
				appended(t, l, records[n])
			}
			want := laid(epoch, records...)
			if h.Waiting() != len(want) || !same(sectorsOf(h, 3, len(want)), want) {
				t.Fatal(epoch, sizes, "the sectors are others")
			}
			if !stands(l, len(sizes), 30-len(want), false) || !clean(h, 0, 3) || !clean(h, 3+len(want), 40) {
				t.Fatal(epoch, sizes, l.Count(), l.Room(), "or something else is written")
			}
			for many := range len(want) + 1 {
				holdRising(t, epoch, records, want, many)
			}
		}
	}
}

// clean tells whether sectors have never been written to.
func clean(h *block.Hand, from, to int) bool {
	return !slices.ContainsFunc(sectorsOf(h, from, to-from), func(b []byte) bool { return !bytes.Equal(b, make([]byte, 512)) })
}

// holdRising lets so many acts be carried out: the first sectors are written then, and no other one.
func holdRising(t *testing.T, epoch int, records, want [][]byte, many int) {
	t.Helper()
	h := block.New(40)
	l, _ := open(t, h, 3, 30, epoch)
	h.Arm(many, false)
	for _, b := range records {
		if l.Append(b) != nil {
			break
		}
	}
	if h.Waiting() != many || !same(sectorsOf(h, 3, many), want[:many]) || !clean(h, 3+many, 40) {
		t.Fatal(epoch, told(records), many, "the first sectors are not written first")
	}
}

// TestP123Refused: what is too long or does not fit changes nothing.
func TestP123Refused(t *testing.T) {
	h := block.New(1200)
	l, _ := open(t, h, 0, 1100, 1)
	for _, size := range []int{maxRecord + 1, maxRecord + 2, 533 * partSize, 533*partSize + 1, 2 * maxRecord, 1 << 20} {
		if err := l.Append(make([]byte, size)); err != api.ErrLong || !stands(l, 0, 1100, false) {
			t.Error(size, err)
		}
	}
	if h.Waiting() != 0 {
		t.Error("something is written")
	}
	b := noise(maxRecord, 1)
	appended(t, l, b, b)
	if !stands(l, 2, 34, false) {
		t.Error(l.Count(), l.Room())
	}
	// What is too long is told ahead of what does not fit; what does not fit, ahead of a disk that is down.
	h.Arm(0, true)
	for size, want := range map[int]api.Errno{maxRecord + 1: api.ErrLong, maxRecord: api.ErrWalFull, 34*partSize + 1: api.ErrWalFull} {
		if err := l.Append(make([]byte, size)); err != want || !stands(l, 2, 34, false) || h.Waiting() != 1066 {
			t.Error(size, err)
		}
	}
	if h.Down() {
		t.Error("an act was done")
	}
	h.Disk().Sync()
	for size, want := range map[int]api.Errno{maxRecord + 1: api.ErrLong, 34*partSize + 1: api.ErrWalFull} {
		if err := l.Append(make([]byte, size)); err != want || !stands(l, 2, 34, false) {
			t.Error(size, err)
		}
	}
	if err := l.Append(make([]byte, 34*partSize)); !is(err, api.ErrDown) || !stands(l, 2, 34, true) {
		t.Error(err)
	}
	for _, size := range []int{0, 1, 34*partSize + 1, maxRecord + 1} {
		if err := l.Append(make([]byte, size)); err != api.ErrWalDead {
			t.Error(size, err)
		}
	}
}

// TestP123Room: what takes all sectors that are left is fine, one byte more is not.
func TestP123Room(t *testing.T) {
	for room := 1; room <= 6; room++ {
		h := block.New(10)
		l, _ := open(t, h, 1, room+2, 4)
		appended(t, l, nil, nil)
		if err := l.Append(make([]byte, room*partSize+1)); err != api.ErrWalFull || !stands(l, 2, room, false) || h.Waiting() != 2 {
			t.Error(room, err)
		}
		b := noise(room*partSize, room)
		appended(t, l, b)
		if _, found := open(t, h, 1, room+2, 4); !same(found, [][]byte{nil, nil, b}) || !stands(l, 3, 0, false) {
			t.Error(room, told(found))
		}
		for _, size := range []int{0, 1} {
			if err := l.Append(make([]byte, size)); err != api.ErrWalFull {
				t.Error(room, size, err)
			}
		}
	}
}

// TestP123Sync: it makes safe what was written, by one act.
func TestP123Sync(t *testing.T) {
	h := block.New(10)
	l, _ := open(t, h, 0, 10, 1)
	h.Arm(6, false)
	if err := l.Sync(); err != nil {
		t.Error(err)
	}
	appended(t, l, noise(493, 1))
	if err := l.Sync(); err != nil || h.Waiting() != 0 || !stands(l, 1, 8, false) {
		t.Error(err, h.Waiting())
	}
	appended(t, l, noise(3, 2))
	if h.Waiting() != 1 {
		t.Error("synced without being asked")
	}
	if err := l.Sync(); err != nil || h.Down() {
		t.Error(err)
	}
	if err := l.Sync(); !is(err, api.ErrDown) || !stands(l, 2, 7, true) {
		t.Error(err)
	}
	h.Crash(nil)
	if _, found := open(t, h, 0, 10, 1); !same(found, [][]byte{noise(493, 1), noise(3, 2)}) {
		t.Error(told(found))
	}
}

// holdDead holds a log that failed against the words, also when the disk is up again.
func holdDead(t *testing.T, h *block.Hand, l *wal.Log, count, room int) {
	t.Helper()
	for range 3 {
		was := sectorsOf(h, 0, 12)
		for _, size := range []int{0, 5, 10000, maxRecord + 1} {
			if err := l.Append(make([]byte, size)); err != api.ErrWalDead {
				t.Fatal(size, err)
			}
		}
		if err := l.Sync(); err != api.ErrWalDead {
			t.Fatal(err)
		}
		if !stands(l, count, room, true) || !same(sectorsOf(h, 0, 12), was) {
			t.Fatal(l.Count(), l.Room(), l.Dead())
		}
		h.Crash(slices.Repeat([]bool{true}, h.Waiting()))
	}
}

// TestP123Dead: whichever act is refused, done or not, the log is dead from then on.
func TestP123Dead(t *testing.T) {
	records := [][]byte{noise(10, 1), nil, noise(1000, 2), noise(492, 3), noise(900, 4)}
	for _, done := range []bool{false, true} {
		for acts := range 13 {
			h := block.New(12)
			l, _ := open(t, h, 1, 11, 1)
			h.Arm(acts, done)
			left, count, room := acts, 0, 11
			for _, b := range records {
				sectors := wal.Sectors(len(b))
				if err := l.Append(b); !is(err, wanted(left, sectors)) || l.Dead() != (left < sectors) {
					t.Fatal(acts, done, err)
				}
				if left -= sectors; left < 0 {
					break
				}
				count, room = count+1, room-sectors
				if err := l.Sync(); !is(err, wanted(left, 1)) || l.Dead() != (left < 1) {
					t.Fatal(acts, done, err)
				}
				if left--; left < 0 {
					break
				}
			}
			if left < 0 {
				holdDead(t, h, l, count, room)
			} else if !stands(l, count, room, false) {
				t.Fatal(acts, done)
			}
		}
	}
}

// wanted is what comes of so many acts, if so many are carried out.
func wanted(left, acts int) api.Errno {
	if left < acts {
		return api.ErrDown
	}
	return api.OK
}

// TestP123DiskIsDown: a disk that went down by another's act refuses the log's, too; and other logs of the disk live on.
func TestP123DiskIsDown(t *testing.T) {
	for i, call := range []func(l *wal.Log) error{(*wal.Log).Sync, func(l *wal.Log) error { return l.Append(nil) }, func(l *wal.Log) error { return l.Append(noise(2000, 1)) }} {
		h := block.New(20)
		l, _ := open(t, h, 0, 10, 1)
		other, _ := open(t, h, 10, 10, 1)
		appended(t, other, noise(5, 1))
		h.Arm(0, false)
		h.Disk().Write(19, make([]byte, 512))
		if !stands(l, 0, 10, false) {
			t.Error(i, "dead ahead of its own act")
		}
		err := call(l)
		if !is(err, api.ErrDown) || !errors.Is(err, api.ErrDown) || !l.Dead() || other.Dead() {
			t.Error(i, err)
		}
		h.Crash([]bool{true})
		if err := call(l); err != api.ErrWalDead {
			t.Error(i, err)
		}
		appended(t, other, noise(6, 1))
		if _, found := open(t, h, 10, 10, 1); !same(found, [][]byte{noise(5, 1), noise(6, 1)}) {
			t.Error(i, told(found))
		}
	}
}

// TestErrors: what the disk refuses is wrapped, and told in words; what the log itself refuses is told as it is.
func TestErrors(t *testing.T) {
	h := block.New(20)
	appends, _ := open(t, h, 0, 10, 1)
	syncs, _ := open(t, h, 0, 10, 1)
	h.Arm(0, false)
	_, _, opened := wal.Open(h.Disk(), 0, 10, 1)
	if opened != nil {
		t.Error(opened)
	}
	seen := map[string]bool{}
	wrote, synced := appends.Append(nil), syncs.Sync()
	_, _, opened = wal.Open(h.Disk(), 0, 10, 1)
	for _, err := range []error{wrote, synced, opened} {
		var e api.Errno
		if !errors.Is(err, api.ErrDown) || errors.Is(err, api.ErrWalDead) || !errors.As(err, &e) || e != api.ErrDown || err == api.ErrDown || seen[err.Error()] {
			t.Error(err)
		}
		seen[err.Error()] = true
	}
	if !seen["write refused: error 5"] || !seen["sync refused: error 5"] || !seen["read refused: error 5"] {
		t.Error(seen)
	}
}
