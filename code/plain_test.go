package code

import (
	"fmt"
	"math"
	"slices"
	"strings"

	"tautochrone/api"
	"tautochrone/word"
)

// A second way to say what instructions are: one row for each, by letters. T: To is set. A, B, C: taken. a: taken from 0 on. v: Value counts. @: Target does. s: the operator's sign. .: it doesn't go on.
var rows = []string{"set Tv", "move TA", "do TsAB", "choose TABC", "read Tav", "write aBv", "jump @.", "zero A@", "lock v", "unlock v", "inc Av", "mend ", "tell A", "halt ."}

// row is what is said of a code, and its name.
func row(c api.Code) (string, string) {
	if c.Op < 0 || int(c.Op) >= len(rows) {
		return "?", ""
	}
	name, letters, _ := strings.Cut(rows[c.Op], " ")
	return name, letters
}

// taken are the values for the letters of a row.
func taken(c api.Code) []int {
	_, letters := row(c)
	var l []int
	for _, r := range letters {
		switch {
		case r == 'A', r == 'a' && c.A >= 0:
			l = append(l, c.A)
		case r == 'B':
			l = append(l, c.B)
		case r == 'C':
			l = append(l, c.C)
		}
	}
	return l
}

func says(c api.Code, letter string) bool {
	_, letters := row(c)
	return strings.Contains(letters, letter)
}

func plainNext(c api.Code, at, n int) []int {
	var l []int
	if !says(c, ".") && at != math.MaxInt64 && at+1 < n {
		l = append(l, at+1)
	}
	if says(c, "@") && 0 <= c.Target && c.Target < n {
		l = append(l, c.Target)
	}
	slices.Sort(l)
	return slices.Compact(l)
}

func plainGood(cs []api.Code) bool {
	if len(cs) == 0 || len(cs) > 4096 {
		return false
	}
	for i, c := range cs {
		name, _ := row(c)
		l := taken(c)
		if says(c, "T") {
			l = append(l, c.To)
		}
		outside := func(v int) bool { return v != int(uint16(v)) }
		switch {
		case name == "?",
			i == len(cs)-1 && name != "halt" && name != "jump",
			name == "do" && word.Tight(c.Do) == 0,
			says(c, "@") && (c.Target < 0 || c.Target > len(cs)-1),
			slices.ContainsFunc(l, outside):
			return false
		}
	}
	return true
}

func plainValues(cs []api.Code) int {
	greatest := -1
	for _, c := range cs {
		l := append(taken(c), -1)
		if says(c, "T") {
			l = append(l, c.To)
		}
		greatest = max(greatest, slices.Max(l))
	}
	return greatest + 1
}

func plainText(c api.Code) string {
	name, letters := row(c)
	s := name
	for _, r := range letters {
		switch {
		case r == 'T':
			s += fmt.Sprint(" v", c.To)
		case r == 's' && c.Do >= 0 && c.Do < 10:
			s += " " + word.Signs()[c.Do]
		case r == 'A', r == 'a' && c.A >= 0:
			s += fmt.Sprint(" v", c.A)
		case r == 'B':
			s += fmt.Sprint(" v", c.B)
		case r == 'C':
			s += fmt.Sprint(" v", c.C)
		case r == 'v':
			s += fmt.Sprint(" ", c.Value)
		case r == '@':
			s += fmt.Sprint(" @", c.Target)
		}
	}
	return s
}
