package live

import (
	"cmp"
	"slices"

	"tautochrone/api"
	"tautochrone/code"
)

// batch is how many values are searched for at once: one for each bit of a word.
const batch = 64

// take says that the value with a number among those of a search is taken at a place.
type take struct{ number, at int }

// search goes from the places at which values are taken back to those from which one can come there. It does so for a batch of values after the other, so that what it costs hangs on what is live, not on how many codes and values there are at all.
type search struct {
	ahead  [][]int // of each place those behind which it may come
	sets   []int   // of each place the number of the value that it sets, or -1
	values []int   // all that are taken, by their numbers: rising
	takes  []take  // those that were not looked at yet: by number, then by place
	base   int     // the number of the batch's first value

	live  []uint64 // of each place those of the batch that are live there
	found []int    // the places at which there are any
	open  []int    // those of them from which is still to be gone back: the last one first
	waits []bool   // of each place, whether it is one of these
}

// searchOf is the search for all values that codes take; no batch is looked at yet.
func searchOf(cs []api.Code) *search {
	n := len(cs)
	s := &search{ahead: make([][]int, n), sets: make([]int, n), live: make([]uint64, n), waits: make([]bool, n), base: -batch}
	for at, c := range cs {
		for _, behind := range code.Next(c, at, n) {
			s.ahead[behind] = append(s.ahead[behind], at)
		}
	}
	s.number(cs)
	return s
}

// number gives numbers to the values that are taken, and keeps where each is taken, and set.
func (s *search) number(cs []api.Code) {
	for _, c := range cs {
		s.values = append(s.values, code.Uses(c)...)
	}
	slices.Sort(s.values)
	s.values = slices.Compact(s.values)
	for at, c := range cs {
		for _, v := range code.Uses(c) {
			k, _ := slices.BinarySearch(s.values, v)
			s.takes = append(s.takes, take{k, at})
		}
		s.sets[at] = -1
		if v, ok := code.Defines(c); ok {
			if k, taken := slices.BinarySearch(s.values, v); taken {
				s.sets[at] = k
			}
		}
	}
	slices.SortFunc(s.takes, func(a, b take) int {
		return cmp.Or(cmp.Compare(a.number, b.number), cmp.Compare(a.at, b.at))
	})
}

// more searches for the next batch of values; false, if there is none.
func (s *search) more() bool {
	for _, at := range s.found {
		s.live[at] = 0
	}
	s.found = s.found[:0]
	s.base += batch
	if s.base >= len(s.values) {
		return false
	}
	s.begin()
	for len(s.open) > 0 {
		at := s.open[len(s.open)-1]
		s.open = s.open[:len(s.open)-1]
		s.waits[at] = false
		for _, from := range s.ahead[at] {
			s.mark(from, s.live[at]&^s.set(from))
		}
	}
	return true
}

// begin marks the places at which values of the batch are taken, from the front on: to begin at the last one finds what is live in codes without loops at one go.
func (s *search) begin() {
	n := 0
	for n < len(s.takes) && s.takes[n].number < s.base+batch {
		n++
	}
	now := s.takes[:n]
	s.takes = s.takes[n:]
	slices.SortFunc(now, func(a, b take) int { return cmp.Compare(a.at, b.at) })
	for _, t := range now {
		s.mark(t.at, 1<<(t.number-s.base))
	}
}

// mark keeps that values are live at a place, and if that was not known, that is to be gone back from there.
func (s *search) mark(at int, these uint64) {
	old := s.live[at]
	if these&^old == 0 {
		return
	}
	if old == 0 {
		s.found = append(s.found, at)
	}
	s.live[at] = old | these
	if !s.waits[at] {
		s.waits[at] = true
		s.open = append(s.open, at)
	}
}

// set is that one of the batch which a place sets, if there is one.
func (s *search) set(at int) uint64 {
	k := s.sets[at] - s.base
	if k < 0 || k >= batch {
		return 0
	}
	return 1 << k
}

// edge is those of the batch that are live at a place, and not both just ahead of it and just behind it in the list: no other place can be a value's first or last one.
func (s *search) edge(at int) uint64 {
	inside := uint64(0)
	if at > 0 && at+1 < len(s.live) {
		inside = s.live[at-1] & s.live[at+1]
	}
	return s.live[at] &^ inside
}
