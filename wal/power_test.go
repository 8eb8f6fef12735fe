package wal_test

import (
	"slices"
	"testing"

	"blotter/api"
	"blotter/block"
	"blotter/wal"
)

// TestP124Counts: a log's numbers, through sundry calls, held against what was asked.
func TestP124Counts(t *testing.T) {
	for seed := range 40 {
		c := chance{uint64(seed)}
		many := 1 + c.below(60)
		h := block.New(80)
		l, _ := open(t, h, c.below(20), many, 1+c.below(1000))
		count, room := 0, many
		for range 60 {
			size := []int{0, 1, 492, 493, 984, 1500, 5000, maxRecord + 1}[c.below(8)]
			want := api.OK
			switch {
			case size > maxRecord:
				want = api.ErrLong
			case wal.Sectors(size) > room:
				want = api.ErrWalFull
			default:
				count, room = count+1, room-wal.Sectors(size)
			}
			if err := l.Append(noise(size, count)); !is(err, want) || !stands(l, count, room, false) {
				t.Fatal(seed, size, err, l.Count(), l.Room())
			}
			if c.below(4) == 0 && (l.Sync() != nil || !stands(l, count, room, false)) {
				t.Fatal(seed, l.Count(), l.Room())
			}
		}
	}
}

// TestP126ThereAndBack: what was appended is found, at each place, with each epoch, behind what other epochs left.
func TestP126ThereAndBack(t *testing.T) {
	h := block.New(90)
	c := chance{6}
	for epoch := range 60 {
		epoch += 1 + epoch/20<<38
		l, before := open(t, h, 5, 80, epoch)
		if len(before) != 0 || !stands(l, 0, 80, false) {
			t.Fatal(epoch, told(before))
		}
		var records [][]byte
		for n := range c.below(30) {
			size := []int{0, 1, 491, 492, 493, 984, 985, 3000, c.below(6000)}[c.below(9)]
			b := noise(size, n+epoch)
			if wal.Sectors(size) > l.Room() {
				continue
			}
			appended(t, l, b)
			records = append(records, b)
			if c.below(9) == 0 {
				if l, before = open(t, h, 5, 80, epoch); !same(before, records) {
					t.Fatal(epoch, told(before))
				}
			}
		}
		again, found := open(t, h, 5, 80, epoch)
		if !same(found, records) || !stands(again, l.Count(), l.Room(), false) {
			t.Fatal(epoch, told(found), told(records))
		}
		for _, greater := range []int{epoch + 1, epoch + 256, 1 << 40} {
			if _, found = open(t, h, 5, 80, greater); len(found) != 0 {
				t.Fatal(epoch, greater, told(found))
			}
		}
	}
}

// TestP126Longest: a record of MaxRecord bytes, and one of one byte less.
func TestP126Longest(t *testing.T) {
	h := block.New(1 << 11)
	l, _ := open(t, h, 0, 1<<11, 1<<40)
	records := [][]byte{noise(maxRecord, 1), noise(maxRecord-1, 2), nil, make([]byte, maxRecord)}
	appended(t, l, records...)
	again, found := open(t, h, 0, 1<<11, 1<<40)
	if !same(found, records) || !stands(again, 4, 1<<11-3*533-1, false) {
		t.Error(told(found), again.Count(), again.Room())
	}
}

// TestP126ManyRecords: more records than two bytes number.
func TestP126ManyRecords(t *testing.T) {
	const many = 1<<16 + 300
	h := block.New(many)
	l, _ := open(t, h, 0, many, 1)
	for n := range many {
		appended(t, l, []byte{byte(n), byte(n >> 8), byte(n >> 16)})
	}
	_, found := open(t, h, 0, many, 1)
	for n, b := range found {
		if want := []byte{byte(n), byte(n >> 8), byte(n >> 16)}; !slices.Equal(b, want) || !slices.Equal(h.Sector(n), part{1, n, 0, 1, 3, want}.sector()) {
			t.Fatal(n, b)
		}
	}
	if len(found) != many || !stands(l, many, 0, false) {
		t.Error(len(found), l.Count(), l.Room())
	}
}

// step of a script: a record of so many bytes is appended; below 0 the log is synced.
type step int

// outcome is what came of a script: the records that were appended, how many of them were so ahead of a Sync that was answered, and the one under way.
type outcome struct {
	appended [][]byte
	safe     int
	under    []byte
	refused  bool
}

// play plays a script on a log until an act is refused.
func play(l *wal.Log, script []step, seed int) outcome {
	var o outcome
	for i, s := range script {
		if s < 0 {
			if l.Sync() != nil {
				o.refused = true
				return o
			}
			o.safe = len(o.appended)
			continue
		}
		b := noise(int(s), seed+i)
		if l.Append(b) != nil {
			o.under, o.refused = b, true
			return o
		}
		o.appended = append(o.appended, b)
	}
	return o
}

// may tells whether these records may be found behind a loss of power.
func (o outcome) may(found [][]byte) bool {
	all := o.appended
	if o.refused && o.under != nil {
		all = append(slices.Clone(all), o.under)
	}
	return len(found) >= o.safe && len(found) <= len(all) && same(found, all[:len(found)])
}

// keeps are ways in which so many writes stay or go: all, if they are few.
func keeps(many int, c *chance) [][]bool {
	var l [][]bool
	for n := range 1 << min(many, 6) {
		keep := make([]bool, many)
		for i := range keep {
			keep[i] = n>>i&1 == 1
			if i >= 6 {
				keep[i] = c.below(2) == 1
			}
		}
		l = append(l, keep)
	}
	return append(l, slices.Repeat([]bool{true}, many), nil)
}

// scripts are some.
func scripts() [][]step {
	return [][]step{
		{3, -1}, {600, -1, 600}, {0, 0, 0, -1, 0, 0}, {2000, -1}, {492, -1, 493, -1, 984, -1}, {1, 1, 1, 1, -1, 985, 2}, {-1, -1, 5}, {1400, 20}, {700, 700, -1, 700},
	}
}

// used is an area that logs of the epochs 1 to 3 wrote to, each until the power went.
func used(t *testing.T) *block.Hand {
	t.Helper()
	h := block.New(14)
	for epoch, script := range [][]step{{500, 500, -1, 3, 900, 0}, {3, 3, 3, 3, 3, 3}, {600, -1, 2000, 5}} {
		l, _ := open(t, h, 2, 11, epoch+1)
		h.Arm(7, true)
		play(l, script, epoch)
		h.Crash([]bool{true, false, true, true, true, false, true})
	}
	return h
}

// TestP127Power: the power goes on each act, whichever writes stay.
func TestP127Power(t *testing.T) {
	for i, script := range scripts() {
		c := chance{uint64(i)}
		for acts := 0; ; acts++ {
			refused := false
			for _, done := range []bool{false, true} {
				h := used(t)
				l, _ := open(t, h, 2, 11, 4)
				h.Arm(acts, done)
				refused = play(l, script, i).refused
				for _, keep := range keeps(h.Waiting(), &c) {
					holdPower(t, script, i, acts, done, keep)
				}
			}
			if !refused {
				break
			}
		}
	}
}

// holdPower plays a script until an act is refused, lets the power go, and holds what is found against the words; and once more what is written in a greater epoch then.
func holdPower(t *testing.T, script []step, seed, acts int, done bool, keep []bool) {
	t.Helper()
	h := used(t)
	l, found := open(t, h, 2, 11, 4)
	if len(found) != 0 {
		t.Fatal(told(found))
	}
	h.Arm(acts, done)
	o := play(l, script, seed)
	lost := len(keep) < h.Waiting() || slices.Contains(keep, false)
	h.Crash(keep)
	again, found := open(t, h, 2, 11, 4)
	if !o.may(found) || again.Count() != len(found) || again.Dead() {
		t.Fatal(script, acts, done, keep, told(found), "of", told(o.appended), o.safe)
	}
	if !lost && len(found) < len(o.appended) {
		t.Fatal(script, acts, done, "nothing was lost, and yet", told(found))
	}
	l, found = open(t, h, 2, 11, 5)
	o = play(l, script, seed+7)
	if h.Crash(nil); len(found) != 0 || o.refused {
		t.Fatal(script, acts, done, keep, told(found))
	}
	if _, found = open(t, h, 2, 11, 5); len(found) != o.safe || !o.may(found) {
		t.Fatal(script, acts, done, keep, told(found))
	}
}

// TestP127WholeOrNot: the record under way is there whole when the act that took the disk down was its last, and was done.
func TestP127WholeOrNot(t *testing.T) {
	for acts := range 3 {
		for _, done := range []bool{false, true} {
			h := block.New(5)
			l, _ := open(t, h, 0, 5, 1)
			h.Arm(acts, done)
			if err := l.Append(noise(1000, 1)); !is(err, api.ErrDown) || !stands(l, 0, 5, true) {
				t.Fatal(acts, done, err)
			}
			h.Crash([]bool{true, true, true})
			want := 0
			if acts == 2 && done {
				want = 1
			}
			if again, found := open(t, h, 0, 5, 1); len(found) != want || !stands(again, want, 5-3*want, false) {
				t.Error(acts, done, told(found))
			}
		}
	}
}
