package code

import (
	"math"
	"testing"

	"tautochrone/api"
)

func TestText(t *testing.T) {
	for _, x := range []struct {
		c    api.Code
		want string
	}{
		{full(api.Set), "set v11 55"}, {full(api.Move), "move v11 v22"}, {full(api.Do), "do v11 ^ v22 v33"}, {full(api.Choose), "choose v11 v22 v33 v44"},
		{full(api.Read), "read v11 v22 55"}, {full(api.Write), "write v22 v33 55"}, {full(api.Jump), "jump @66"}, {full(api.Zero), "zero v22 @66"},
		{full(api.Lock), "lock 55"}, {full(api.Unlock), "unlock 55"}, {full(api.Inc), "inc v22 55"}, {full(api.Mend), "mend"}, {full(api.Tell), "tell v22"}, {full(api.Halt), "halt"},
		{api.Code{}, "set v0 0"}, {api.Code{Op: api.Move}, "move v0 v0"}, {api.Code{Op: api.Do}, "do v0 + v0 v0"}, {api.Code{Op: api.Choose}, "choose v0 v0 v0 v0"},
		{api.Code{Op: api.Read}, "read v0 v0 0"}, {api.Code{Op: api.Write}, "write v0 v0 0"}, {api.Code{Op: api.Jump}, "jump @0"}, {api.Code{Op: api.Zero}, "zero v0 @0"},
		{api.Code{Op: api.Lock}, "lock 0"}, {api.Code{Op: api.Unlock}, "unlock 0"}, {api.Code{Op: api.Inc}, "inc v0 0"}, {api.Code{Op: api.Tell}, "tell v0"},
		{api.Code{Op: api.Do, To: 3, Do: api.Sub, A: 1, B: 2}, "do v3 - v1 v2"}, {api.Code{Op: api.Read, To: 1, A: -1, Value: 5}, "read v1 5"}, {api.Code{Op: api.Write, A: -1, B: 4, Value: 6}, "write v4 6"},
		{api.Code{Op: api.Read, To: 1, A: -9, Value: 5}, "read v1 5"}, {api.Code{Op: api.Write, A: math.MinInt64, B: 4, Value: 6}, "write v4 6"},
		{api.Code{Op: api.Set, To: 1, Value: math.MaxUint64}, "set v1 18446744073709551615"}, {api.Code{Op: api.Lock, Value: 1 << 63}, "lock 9223372036854775808"},
		{api.Code{Op: api.Set, To: -1, Value: 2}, "set v-1 2"}, {api.Code{Op: api.Move, To: -3, A: -4}, "move v-3 v-4"}, {api.Code{Op: api.Jump, Target: -2}, "jump @-2"}, {api.Code{Op: api.Zero, A: -1, Target: math.MinInt64}, "zero v-1 @-9223372036854775808"},
		{api.Code{Op: api.Tell, A: math.MaxInt64}, "tell v9223372036854775807"}, {api.Code{Op: api.Jump, Target: math.MaxInt64}, "jump @9223372036854775807"},
	} {
		if s := Text(x.c); s != x.want {
			t.Errorf("Text(%+v) = %q, not %q", x.c, s, x.want)
		}
	}
}

func TestTextOperators(t *testing.T) {
	for op, sign := range []string{"+", "-", "*", "&", "|", "^", "<<", ">>", "==", "<"} {
		c := api.Code{Op: api.Do, Do: api.Op(op), To: 3, A: 1, B: 2}
		if s := Text(c); s != "do v3 "+sign+" v1 v2" {
			t.Error(op, s)
		}
	}
	for _, op := range []api.Op{-1, -2, 10, 11, 64, 1 << 32, math.MinInt64, math.MaxInt64} {
		c := api.Code{Op: api.Do, Do: op, To: 3, A: 1, B: 2}
		if s := Text(c); s != "do v3 v1 v2" {
			t.Error(op, s)
		}
	}
}

func TestTextOfNoSuchCode(t *testing.T) {
	for _, op := range strangers() {
		if s := Text(full(op)); s != "?" {
			t.Error(op, s)
		}
	}
}
