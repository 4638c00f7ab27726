package live

import (
	"slices"

	"tautochrone/api"
	"tautochrone/code"
)

// The same rules, as they are written: from each place, and of each value, all ways are gone.

// isLive tells whether from a place on one can come to one that takes a value, and none ahead of that sets it.
func isLive(cs []api.Code, at, v int) bool {
	been := make([]bool, len(cs))
	ways := []int{at}
	for len(ways) > 0 {
		p := ways[0]
		ways = ways[1:]
		if been[p] {
			continue
		}
		been[p] = true
		if slices.Contains(code.Uses(cs[p]), v) {
			return true
		}
		if to, ok := code.Defines(cs[p]); ok && to == v {
			continue
		}
		ways = append(ways, code.Next(cs[p], p, len(cs))...)
	}
	return false
}

func plainOf(cs []api.Code) [][]int {
	var all []int
	for _, c := range cs {
		all = append(all, code.Uses(c)...)
	}
	slices.Sort(all)
	all = slices.Compact(all)
	lists := make([][]int, len(cs))
	for at := range cs {
		for _, v := range all {
			if isLive(cs, at, v) {
				lists[at] = append(lists[at], v)
			}
		}
	}
	return lists
}

func plainSpans(cs []api.Code) []Span {
	n := code.Values(cs)
	if n > 65536 {
		return nil
	}
	spans := make([]Span, n)
	for v := range spans {
		spans[v] = plainSpan(cs, v)
	}
	return spans
}

func plainSpan(cs []api.Code, v int) Span {
	s := Span{-1, -1}
	for at, c := range cs {
		to, sets := code.Defines(c)
		behind := slices.ContainsFunc(code.Next(c, at, len(cs)), func(p int) bool { return isLive(cs, p, v) })
		if isLive(cs, at, v) || sets && to == v || behind {
			if s.First < 0 {
				s.First = at
			}
			s.Last = at
		}
	}
	return s
}
