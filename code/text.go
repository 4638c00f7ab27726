package code

import (
	"strconv"
	"strings"

	"tautochrone/api"
	"tautochrone/word"
)

// Text is an instruction's text: its name, and what counts of it.
func Text(c api.Code) string {
	what := name(c.Op)
	if what == "" {
		return "?"
	}
	parts := []string{what}
	if to, ok := Defines(c); ok {
		parts = append(parts, value(to))
	}
	if c.Op == api.Do && operator(c.Do) {
		parts = append(parts, word.Signs()[c.Do])
	}
	for _, v := range Uses(c) {
		parts = append(parts, value(v))
	}
	if counts(c.Op) {
		parts = append(parts, strconv.FormatUint(c.Value, 10))
	}
	if there, _ := Jumps(c); there {
		parts = append(parts, "@"+strconv.Itoa(c.Target))
	}
	return strings.Join(parts, " ")
}

// name is the name of what an instruction does; nothing, if there is no such thing.
func name(op api.CodeOp) string {
	names := [...]string{"set", "move", "do", "choose", "read", "write", "jump", "zero", "lock", "unlock", "inc", "mend", "tell", "halt"}
	if op < api.Set || op > api.Halt {
		return ""
	}
	return names[op]
}

// value is how a value is written.
func value(v int) string {
	return "v" + strconv.Itoa(v)
}

// counts tells whether an instruction's Value does.
func counts(op api.CodeOp) bool {
	switch op {
	case api.Set, api.Read, api.Write, api.Lock, api.Unlock, api.Inc:
		return true
	}
	return false
}
