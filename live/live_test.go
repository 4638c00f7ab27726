package live

import (
	"math"
	"slices"
	"testing"

	"tautochrone/api"
)

func set(to int) api.Code             { return api.Code{Op: api.Set, To: to} }
func move(to, a int) api.Code         { return api.Code{Op: api.Move, To: to, A: a} }
func do(to, a, b int) api.Code        { return api.Code{Op: api.Do, To: to, A: a, B: b} }
func choose(to, a, b, c int) api.Code { return api.Code{Op: api.Choose, To: to, A: a, B: b, C: c} }
func read(to, a int) api.Code         { return api.Code{Op: api.Read, To: to, A: a} }
func write(a, b int) api.Code         { return api.Code{Op: api.Write, A: a, B: b} }
func jump(target int) api.Code        { return api.Code{Op: api.Jump, Target: target} }
func zero(a, target int) api.Code     { return api.Code{Op: api.Zero, A: a, Target: target} }
func inc(a int) api.Code              { return api.Code{Op: api.Inc, A: a} }
func tell(a int) api.Code             { return api.Code{Op: api.Tell, A: a} }

var (
	halt   = api.Code{Op: api.Halt}
	mend   = api.Code{Op: api.Mend}
	lock   = api.Code{Op: api.Lock, To: 5, A: 5, B: 5, C: 5, Value: 5, Target: 5}
	unlock = api.Code{Op: api.Unlock, To: 5, A: 5, B: 5, C: 5, Value: 5, Target: 5}
)

// none is the span of a value that is nowhere.
var none = Span{-1, -1}

// cases are codes, what is live at each, and the spans of their values.
var cases = []struct {
	name  string
	cs    []api.Code
	live  [][]int
	spans []Span
}{
	{"nothing", nil, nil, nil},
	{"no codes", []api.Code{}, nil, nil},
	{"halt", []api.Code{halt}, [][]int{nil}, nil},
	{"example", []api.Code{set(0), tell(0), halt}, [][]int{nil, {0}, nil}, []Span{{0, 1}}},
	{"set and not taken", []api.Code{set(0), halt}, [][]int{nil, nil}, []Span{{0, 0}}},
	{"set and not taken behind", []api.Code{halt, halt, set(1), halt}, [][]int{nil, nil, nil, nil}, []Span{none, {2, 2}}},
	{"taken and not set", []api.Code{mend, mend, tell(2), halt}, [][]int{{2}, {2}, {2}, nil}, []Span{none, none, {0, 2}}},
	{"taken at once", []api.Code{tell(0), mend, halt}, [][]int{{0}, nil, nil}, []Span{{0, 0}}},
	{"taken last", []api.Code{set(0), tell(0)}, [][]int{nil, {0}}, []Span{{0, 1}}},
	{"set twice", []api.Code{set(0), set(0), tell(0), halt}, [][]int{nil, nil, {0}, nil}, []Span{{0, 2}}},
	{"taken twice", []api.Code{set(0), tell(0), mend, tell(0), mend, halt}, [][]int{nil, {0}, {0}, {0}, nil, nil}, []Span{{0, 3}}},
	{"a gap", []api.Code{set(0), tell(0), mend, set(0), mend, tell(0), halt}, [][]int{nil, {0}, nil, nil, {0}, {0}, nil}, []Span{{0, 5}}},
	{"takes and sets", []api.Code{set(0), move(0, 0), tell(0), halt}, [][]int{nil, {0}, {0}, nil}, []Span{{0, 2}}},
	{"takes and sets last", []api.Code{set(0), mend, do(0, 0, 0), halt}, [][]int{nil, {0}, {0}, nil}, []Span{{0, 2}}},
	{"takes and sets first", []api.Code{do(0, 0, 0), halt}, [][]int{{0}, nil}, []Span{{0, 0}}},
	{"takes and sets nowhere else", []api.Code{mend, choose(3, 1, 3, 2), mend, halt}, [][]int{{1, 2, 3}, {1, 2, 3}, nil, nil}, []Span{none, {0, 1}, {0, 1}, {0, 1}}},
	{"rising", []api.Code{choose(0, 9, 4, 7), halt}, [][]int{{4, 7, 9}, nil}, []Span{{0, 0}, none, none, none, {0, 0}, none, none, {0, 0}, none, {0, 0}}},
	{"taken twice by one", []api.Code{do(0, 2, 2), choose(0, 1, 1, 1), write(3, 3), halt}, [][]int{{1, 2, 3}, {1, 3}, {3}, nil}, []Span{{0, 1}, {0, 1}, {0, 0}, {0, 2}}},
	{"of each", []api.Code{set(0), read(1, 0), read(2, -1), do(3, 1, 2), move(4, 3), choose(5, 4, 1, 2), write(5, 4), write(-1, 3), inc(2), tell(5), halt}, [][]int{nil, {0}, {1}, {1, 2}, {1, 2, 3}, {1, 2, 3, 4}, {2, 3, 4, 5}, {2, 3, 5}, {2, 5}, {5}, nil}, []Span{{0, 1}, {1, 5}, {2, 8}, {3, 7}, {4, 6}, {5, 9}}},
	{"what takes nothing", []api.Code{lock, mend, unlock, halt}, [][]int{nil, nil, nil, nil}, nil},
	{"a lock sets nothing", []api.Code{lock, unlock, tell(5), halt}, [][]int{{5}, {5}, {5}, nil}, []Span{none, none, none, none, none, {0, 2}}},
	{"nothing behind halt", []api.Code{set(0), halt, tell(0), halt}, [][]int{nil, nil, {0}, nil}, []Span{{0, 2}}},
	{"nothing behind a jump", []api.Code{set(0), jump(3), tell(0), halt}, [][]int{nil, nil, {0}, nil}, []Span{{0, 2}}},
	{"no way leads there", []api.Code{jump(3), mend, tell(1), tell(0), halt}, [][]int{{0}, {0, 1}, {0, 1}, {0}, nil}, []Span{{0, 3}, {1, 2}}},
	{"set where no way leads", []api.Code{jump(2), set(0), tell(0), halt}, [][]int{{0}, nil, {0}, nil}, []Span{{0, 2}}},
	{"both ways", []api.Code{zero(0, 3), tell(1), halt, tell(2), halt}, [][]int{{0, 1, 2}, {1}, nil, {2}, nil}, []Span{{0, 0}, {0, 1}, {0, 3}}},
	{"set on one way", []api.Code{zero(0, 2), set(1), tell(1), halt}, [][]int{{0, 1}, nil, {1}, nil}, []Span{{0, 0}, {0, 2}}},
	{"set on both ways", []api.Code{zero(0, 3), set(1), jump(4), set(1), tell(1), halt}, [][]int{{0}, nil, {1}, nil, {1}, nil}, []Span{{0, 0}, {1, 4}}},
	{"taken on one way", []api.Code{set(0), set(1), zero(0, 5), tell(1), jump(6), mend, halt}, [][]int{nil, {0}, {0, 1}, {1}, nil, nil, nil}, []Span{{0, 2}, {1, 3}}},
	{"a loop", []api.Code{set(0), set(1), zero(0, 5), do(0, 0, 1), jump(2), halt}, [][]int{nil, {0}, {0, 1}, {0, 1}, {0, 1}, nil}, []Span{{0, 4}, {1, 4}}},
	{"a loop that sets ahead", []api.Code{set(1), tell(1), mend, jump(0)}, [][]int{nil, {1}, nil, nil}, []Span{none, {0, 1}}},
	{"a loop that takes ahead", []api.Code{tell(1), set(1), mend, jump(0)}, [][]int{{1}, nil, {1}, {1}}, []Span{none, {0, 3}}},
	{"a loop in a loop", []api.Code{set(0), set(1), zero(1, 5), do(1, 1, 2), jump(2), zero(0, 8), do(0, 0, 2), jump(1), halt}, [][]int{{2}, {0, 2}, {0, 1, 2}, {0, 1, 2}, {0, 1, 2}, {0, 2}, {0, 2}, {0, 2}, nil}, []Span{{0, 7}, {1, 4}, {0, 7}}},
	{"back and forth", []api.Code{jump(3), tell(0), halt, jump(5), jump(1), jump(4)}, [][]int{{0}, {0}, nil, {0}, {0}, {0}}, []Span{{0, 5}}},
	{"round and round", []api.Code{jump(0)}, [][]int{nil}, nil},
	{"round and round, and taken", []api.Code{zero(0, 0), jump(0)}, [][]int{{0}, {0}}, []Span{{0, 1}}},
	{"a jump to itself", []api.Code{set(0), jump(1), tell(0), halt}, [][]int{nil, nil, {0}, nil}, []Span{{0, 2}}},
	{"zero to behind itself", []api.Code{zero(0, 1), tell(1), halt}, [][]int{{0, 1}, {1}, nil}, []Span{{0, 0}, {0, 1}}},
	{"zero at the end", []api.Code{set(1), tell(1), zero(0, 0)}, [][]int{{0}, {0, 1}, {0}}, []Span{{0, 2}, {0, 1}}},
	{"to the last one", []api.Code{set(1), jump(3), halt, tell(1)}, [][]int{nil, {1}, nil, {1}}, []Span{none, {0, 3}}},
	{"out of the codes", []api.Code{set(0), jump(3), tell(0)}, [][]int{nil, nil, {0}}, []Span{{0, 2}}},
	{"out of the codes, or on", []api.Code{set(0), zero(1, -1), tell(0)}, [][]int{{1}, {0, 1}, {0}}, []Span{{0, 2}, {0, 1}}},
	{"no such thing goes on", []api.Code{set(0), {Op: 14, To: 0, A: 1, Target: 0}, {Op: -1, To: 0, A: 1, Target: 0}, tell(0)}, [][]int{nil, {0}, {0}, {0}}, []Span{{0, 3}}},
	{"far targets", []api.Code{zero(0, math.MaxInt64), jump(math.MinInt64), tell(0)}, [][]int{{0}, nil, {0}}, []Span{{0, 2}}},
	{"below 0", []api.Code{tell(-2), set(-2), do(0, -1, -2), tell(0)}, [][]int{{-2, -1}, {-1}, {-2, -1}, {0}}, []Span{{2, 3}}},
	{"below 0 alone", []api.Code{set(-1), tell(-1)}, [][]int{nil, {-1}}, nil},
	{"least", []api.Code{mend, tell(math.MinInt64), set(-1)}, [][]int{{math.MinInt64}, {math.MinInt64}, nil}, nil},
}

func sameLists(a, b [][]int) bool {
	return slices.EqualFunc(a, b, func(x, y []int) bool { return slices.Equal(x, y) })
}

func TestOf(t *testing.T) {
	for _, x := range cases {
		if l := Of(x.cs); !sameLists(l, x.live) {
			t.Errorf("%s: %v, not %v", x.name, l, x.live)
		}
	}
}

func TestSpans(t *testing.T) {
	for _, x := range cases {
		if s := Spans(x.cs); !slices.Equal(s, x.spans) {
			t.Errorf("%s: %v, not %v", x.name, s, x.spans)
		}
	}
}

// The cases themselves are held to the rules as they are written.
func TestCases(t *testing.T) {
	for _, x := range cases {
		if l := plainOf(x.cs); !sameLists(l, x.live) {
			t.Errorf("%s: %v, not %v", x.name, l, x.live)
		}
		if s := plainSpans(x.cs); !slices.Equal(s, x.spans) {
			t.Errorf("%s: %v, not %v", x.name, s, x.spans)
		}
	}
}

func TestOfFarValues(t *testing.T) {
	for _, v := range []int{65535, 65536, 1 << 20, 1 << 40, math.MaxInt64 - 1, math.MaxInt64, -1, math.MinInt64} {
		cs := []api.Code{tell(3), set(v), do(4, v, 2), tell(v), halt}
		want := [][]int{{2, 3}, {2}, {2, v}, {v}, nil}
		for _, l := range want {
			slices.Sort(l)
		}
		if l := Of(cs); !sameLists(l, want) {
			t.Errorf("%d: %v, not %v", v, l, want)
		}
	}
}

func TestSpansAtTheLimit(t *testing.T) {
	for _, x := range []struct{ v, want int }{{65534, 65535}, {65535, 65536}, {65536, 0}, {65537, 0}, {1 << 32, 0}, {math.MaxInt64 - 1, 0}, {math.MaxInt64, 0}} {
		for _, cs := range [][]api.Code{{set(2), tell(x.v), tell(2)}, {set(2), set(x.v), tell(2)}} {
			s := Spans(cs)
			if len(s) != x.want {
				t.Errorf("%d: %d spans, not %d", x.v, len(s), x.want)
			}
			for v, p := range s {
				want := none
				switch v {
				case 2:
					want = Span{0, 2}
				case x.v:
					want = Span{slices.Index([]api.CodeOp{api.Tell, api.Set}, cs[1].Op), 1}
				}
				if p != want {
					t.Errorf("%d of %d: %v, not %v", v, x.v, p, want)
				}
			}
		}
	}
}

// spread is codes that set many values, one behind the other, and take them all behind that.
func spread(n int) []api.Code {
	cs := make([]api.Code, 0, 2*n)
	for v := range n {
		cs = append(cs, set(v))
	}
	for v := range n {
		cs = append(cs, tell(v))
	}
	return cs
}

func TestManyValues(t *testing.T) {
	for _, n := range []int{1, 63, 64, 65, 127, 128, 129, 300} {
		cs := spread(n)
		for at, l := range Of(cs) {
			from, to := 0, at
			if at >= n {
				from, to = at-n, n
			}
			if len(l) != to-from {
				t.Fatalf("%d of %d: %v", at, n, l)
			}
			for k, v := range l {
				if v != from+k {
					t.Errorf("%d of %d: %v", at, n, l)
				}
			}
		}
		for v, p := range Spans(cs) {
			if p != (Span{v, n + v}) {
				t.Errorf("%d of %d: %v", v, n, p)
			}
		}
	}
}

// As many values as there may be, all of them live at once: the spans come still.
func TestSpansOfMostValues(t *testing.T) {
	cs := spread(65536)
	s := Spans(cs)
	if len(s) != 65536 {
		t.Fatal(len(s))
	}
	for v, p := range s {
		if p != (Span{v, 65536 + v}) {
			t.Fatal(v, p)
		}
	}
	if s := Spans(spread(65537)); len(s) != 0 {
		t.Error(len(s))
	}
}

// Codes whose order is the other way round than that in which they come: what is live goes through all of them.
func TestBackwards(t *testing.T) {
	n := 20000
	cs := []api.Code{choose(0, 0, 1, 2)}
	for at := range n {
		cs = append(cs, jump(at))
	}
	for at, l := range Of(cs) {
		if !slices.Equal(l, []int{0, 1, 2}) {
			t.Fatal(at, l)
		}
	}
	if s := Spans(cs); !slices.Equal(s, []Span{{0, n}, {0, n}, {0, n}}) {
		t.Error(s)
	}
}

// Values that are live nearby alone, in long codes.
func TestLongCodes(t *testing.T) {
	var cs []api.Code
	for at := range 200000 {
		v := at * 7919 % 65536
		cs = append(cs, set(v), zero(v, len(cs)+3), tell(v))
	}
	l, s := Of(cs), Spans(cs)
	if len(l) != len(cs) || len(s) != 65536 {
		t.Fatal(len(l), len(s))
	}
	for at, c := range cs {
		want := []int{}
		if c.Op != api.Set {
			want = append(want, c.A)
		}
		if !slices.Equal(l[at], want) || c.Op == api.Set && (s[c.To].First > at || s[c.To].Last < at+2) {
			t.Fatal(at, l[at])
		}
	}
}

// Many places from which one comes to one and the same: all that is taken is live everywhere.
func TestManyWaysBack(t *testing.T) {
	var cs []api.Code
	for v := range 1000 {
		cs = append(cs, zero(v, 0))
	}
	for at, l := range Of(cs) {
		// The last one goes back alone, so that from there all are taken as well.
		if len(l) != 1000 || l[0] != 0 || l[999] != 999 {
			t.Fatal(at, len(l))
		}
	}
	for v, p := range Spans(cs) {
		if p != (Span{0, 999}) {
			t.Fatal(v, p)
		}
	}
}

func TestArgumentsStay(t *testing.T) {
	for _, x := range cases {
		old := slices.Clone(x.cs)
		Of(x.cs)
		Spans(x.cs)
		if !slices.Equal(x.cs, old) {
			t.Error(x.name)
		}
	}
}

// To write to an answer changes no other list of it, and no other answer.
func TestAnswersAreNew(t *testing.T) {
	for _, x := range cases {
		l, s := Of(x.cs), Spans(x.cs)
		for at := range l {
			full := l[at][:cap(l[at])]
			for i := range full {
				full[i] = -7
			}
			for other := range l {
				if other > at && !slices.Equal(l[other], x.live[other]) {
					t.Errorf("%s: %d and %d share", x.name, at, other)
				}
			}
		}
		for v := range s {
			s[v] = Span{-7, -7}
		}
		if !sameLists(Of(x.cs), x.live) || !slices.Equal(Spans(x.cs), x.spans) {
			t.Error(x.name)
		}
	}
}
