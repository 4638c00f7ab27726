package hold

import (
	"slices"

	"tautochrone/api"
)

// nobody stands for a thread where there is none.
const nobody = -1

// cell is a declaration, and what its uses so far tell of it.
type cell struct {
	api.Decl
	first int  // the thread that used it first
	adds  bool // whether all its uses are by Bump
}

func cellsOf(ds []api.Decl) []cell {
	cells := make([]cell, 0, len(ds))
	for _, d := range ds {
		cells = append(cells, cell{d, nobody, true})
	}
	return cells
}

// use tells whether a thread that holds some locks may use the cell by a Bump, or otherwise.
func (x *cell) use(thread int, held []string, bump bool) bool {
	switch {
	case x.By != "":
		return slices.Contains(held, x.By)
	case x.Lock:
		return true
	}
	return x.share(thread, bump)
}

// share needs to know the first thread alone: threads come one behind the other, so a later one finds another there, and that one found itself.
func (x *cell) share(thread int, bump bool) bool {
	if x.first == nobody {
		x.first = thread
	}
	x.adds = x.adds && bump
	return x.adds || x.first == thread
}
