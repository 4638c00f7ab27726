package label

import (
	"math"
	"slices"
	"testing"

	"tautochrone/api"
)

// strangers are labels that are neither Public nor Secret.
func strangers() []api.Label {
	return []api.Label{-1, -2, math.MinInt64, math.MinInt64 + 1, 2, 3, 4, 7, 256, 1 << 32, 1<<32 + 1, math.MaxInt64 - 1, math.MaxInt64}
}

// hiding are all labels that count as Secret.
func hiding() []api.Label {
	return append(strangers(), api.Secret)
}

// public are so many labels, all Public.
func public(n int) []api.Label {
	return slices.Repeat([]api.Label{api.Public}, n)
}

func TestJoinTable(t *testing.T) {
	const p, s = api.Public, api.Secret
	for _, x := range []struct {
		ls   []api.Label
		want api.Label
	}{
		{nil, p}, {[]api.Label{}, p},
		{[]api.Label{p}, p}, {[]api.Label{s}, s}, {[]api.Label{7}, s}, {[]api.Label{-1}, s},
		{[]api.Label{p, p}, p}, {[]api.Label{p, s}, s}, {[]api.Label{s, p}, s}, {[]api.Label{s, s}, s},
		{[]api.Label{-1, 1}, s}, {[]api.Label{1, -1}, s}, {[]api.Label{s, s, 2}, s}, {[]api.Label{2, 3, 4}, s},
		{[]api.Label{math.MinInt64, math.MinInt64}, s}, {[]api.Label{math.MaxInt64, 1}, s},
		{[]api.Label{2, 4}, s}, {[]api.Label{2, 2}, s}, {[]api.Label{7, 7, p}, s},
	} {
		if l := Join(x.ls...); l != x.want {
			t.Errorf("Join(%d) = %d, not %d", x.ls, l, x.want)
		}
	}
}

func TestJoinNone(t *testing.T) {
	if l := Join(); l != api.Public {
		t.Errorf("Join() = %d, not Public", l)
	}
}

func TestJoinAllPublic(t *testing.T) {
	for _, n := range []int{1, 2, 3, 10, 64, 1000, 1 << 16} {
		if l := Join(public(n)...); l != api.Public {
			t.Errorf("Join of %d Public = %d, not Public", n, l)
		}
	}
}

// One that is not Public is enough, wherever it stands.
func TestJoinOneHidden(t *testing.T) {
	for _, n := range []int{1, 2, 3, 10, 64, 257} {
		for _, h := range hiding() {
			for i := range n {
				ls := public(n)
				ls[i] = h
				if l := Join(ls...); l != api.Secret {
					t.Fatalf("Join of %d labels with %d at %d = %d, not Secret", n, h, i, l)
				}
			}
		}
	}
}

func TestJoinManyHidden(t *testing.T) {
	for _, a := range hiding() {
		for _, b := range hiding() {
			for _, ls := range [][]api.Label{{a, b}, {api.Public, a, b}, {a, api.Public, b}, {a, b, api.Public}} {
				if l := Join(ls...); l != api.Secret {
					t.Fatalf("Join(%d) = %d, not Secret", ls, l)
				}
			}
		}
	}
}

func TestJoinLeavesLabels(t *testing.T) {
	ls := []api.Label{7, api.Public, api.Secret, -1, api.Public}
	was := slices.Clone(ls)
	Join(ls...)
	if !slices.Equal(ls, was) {
		t.Errorf("Join made %d of %d", ls, was)
	}
}

func TestFlowsTable(t *testing.T) {
	for _, x := range []struct {
		from, to api.Label
		want     bool
	}{
		{api.Public, api.Public, true}, {api.Public, api.Secret, true},
		{api.Secret, api.Public, false}, {api.Secret, api.Secret, true},
	} {
		if v := Flows(x.from, x.to); v != x.want {
			t.Errorf("Flows(%d, %d) = %t", x.from, x.to, v)
		}
	}
}

// A label that is neither counts as Secret, on either side and on both.
func TestFlowsHidden(t *testing.T) {
	for _, a := range hiding() {
		if !Flows(api.Public, a) {
			t.Errorf("Flows(Public, %d) = false", a)
		}
		if Flows(a, api.Public) {
			t.Errorf("Flows(%d, Public) = true", a)
		}
		for _, b := range hiding() {
			if !Flows(a, b) {
				t.Errorf("Flows(%d, %d) = false", a, b)
			}
		}
	}
}

// What flows to a label adds nothing to it.
func TestFlowsByJoin(t *testing.T) {
	all := append(hiding(), api.Public)
	for _, from := range all {
		for _, to := range all {
			if v, want := Flows(from, to), Join(from, to) == Join(to); v != want {
				t.Errorf("Flows(%d, %d) = %t, by Join %t", from, to, v, want)
			}
		}
	}
}
