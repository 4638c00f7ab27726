package place

import (
	"math/rand/v2"
	"slices"
	"strconv"
	"testing"

	"tautochrone/api"
)

// The document's rules once more, cell by cell: whose each one is.
func owners(ds []api.Decl) []int {
	var whose []int
	for i, d := range ds {
		whose = append(whose, i)
		for more := 1; !d.Lock && more < d.Size && more < 64; more++ {
			whose = append(whose, i)
		}
	}
	return whose
}

// randomDecls are declarations of unlike names in an order of their own; many names are the beginning of another one.
func randomDecls(r *rand.Rand) []api.Decl {
	var ds []api.Decl
	for i := range r.IntN(70) {
		d := api.Decl{Name: "n" + strconv.Itoa(i), Lock: r.IntN(4) == 0, Label: api.Label(r.IntN(2)), At: r.IntN(1000)}
		switch r.IntN(4) {
		case 0:
			d.Size = r.IntN(64) + 1
		case 1:
			d.Size = r.IntN(140) - 70
		case 2:
			d.Size = int(r.Uint64())
		}
		if r.IntN(3) == 0 {
			d.By = "n" + strconv.Itoa(r.IntN(70))
		}
		ds = append(ds, d)
	}
	r.Shuffle(len(ds), func(i, k int) { ds[i], ds[k] = ds[k], ds[i] })
	return ds
}

func TestRandom(t *testing.T) {
	r := rand.New(rand.NewPCG(10, 1))
	for range 4000 {
		ds := randomDecls(r)
		m, ls, whose := Of(ds), Labels(ds), owners(ds)
		has(t, m, len(whose))
		for i, d := range ds {
			begins(t, m, d.Name, slices.Index(whose, i))
		}
		isNot(t, m, "", "n", "n70", "n"+strconv.Itoa(len(ds)), "n00", "l")
		var want []api.Label
		for _, i := range whose {
			l := ds[i].Label
			if ds[i].Lock {
				l = api.Public
			}
			want = append(want, l)
		}
		if !slices.Equal(ls, want) {
			t.Errorf("Labels: %v, not %v", ls, want)
		}
		if t.Failed() {
			t.Fatalf("of %+v", ds)
		}
	}
}

// Whatever is put behind a list at random, its own places stay.
func TestRandomPutBehind(t *testing.T) {
	r := rand.New(rand.NewPCG(10, 2))
	for range 1000 {
		ds := randomDecls(r)
		all, mark := Of(ds), r.IntN(len(ds)+1)
		front := Of(ds[:mark])
		for i, d := range ds {
			at, _ := all.Start(d.Name)
			if i < mark {
				begins(t, front, d.Name, at)
				continue
			}
			isNot(t, front, d.Name)
			if at < front.Size() {
				t.Error(d, at, front.Size())
			}
		}
		if !slices.Equal(Labels(ds)[:front.Size()], Labels(ds[:mark])) {
			t.Error(ds, mark)
		}
	}
}
