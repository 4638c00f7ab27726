package hold

import (
	"slices"

	"tautochrone/api"
)

// What happens in a program, one thing behind the other, so that each thing can be asked by itself whether it is wrong.
type happening struct {
	what   deed
	thread int
	name   string
	at     int
}

type deed int

const (
	read deed = iota // a use that is not by Bump
	bump
	local
	take
	give
	begin // of a block
	end   // told at the place of what has the block
)

// story is what happens in a program.
type story []happening

func storyOf(p api.Program) story {
	var all story
	for i, ss := range p.Threads {
		place := 0
		if len(ss) > 0 {
			place = ss[0].At
		}
		all = all.block(i, ss, place)
	}
	return all
}

func (h story) block(thread int, ss []api.Stmt, at int) story {
	h = append(h, happening{begin, thread, "", at})
	for _, s := range ss {
		for _, e := range s.Exprs {
			h = h.expr(thread, e)
		}
		h = h.stmt(thread, s)
	}
	return append(h, happening{end, thread, "", at})
}

func (h story) expr(thread int, e api.Expr) story {
	if e.Kind == api.Name || e.Kind == api.Cell {
		h = append(h, happening{read, thread, e.Name, e.At})
	}
	for _, kid := range e.Kids {
		h = h.expr(thread, kid)
	}
	return h
}

func (h story) stmt(thread int, s api.Stmt) story {
	one := happening{-1, thread, s.Name, s.At}
	switch s.Kind {
	case api.If:
		return h.block(thread, s.Body, s.At).block(thread, s.Else, s.At)
	case api.Loop:
		// As if the counter were the first thing in the Body.
		h = h.block(thread, s.Body, s.At)
		return slices.Insert(h, h.opening(len(h)-1)+1, happening{local, thread, s.Name, s.At})
	case api.Local:
		one.what = local
	case api.Assign, api.Store:
		one.what = read
	case api.Bump:
		one.what = bump
	case api.Take:
		one.what = take
	case api.Give:
		one.what = give
	default:
		return h
	}
	return append(h, one)
}

// opening is where the block begins that ends at a place.
func (h story) opening(i int) int {
	deep := 0
	for ; i >= 0; i-- {
		switch h[i].what {
		case end:
			deep++
		case begin:
			deep--
		}
		if deep == 0 {
			break
		}
	}
	return i
}

// held are the locks that the thread of a thing holds ahead of it.
func (h story) held(i int) []string {
	var out []string
	for _, x := range h[:i] {
		switch {
		case x.thread != h[i].thread:
		case x.what == take:
			out = append(out, x.name)
		case x.what == give:
			out = slices.DeleteFunc(out, func(n string) bool { return n == x.name })
		}
	}
	return out
}

// ownName tells whether the name of a thing is a local's there: going back, blocks that have ended are gone over, up to the thread's beginning.
func (h story) ownName(i int) bool {
	for j := i - 1; j >= 0 && h[j].thread == h[i].thread; j-- {
		if h[j].what == end {
			j = h.opening(j)
		} else if h[j].what == local && h[j].name == h[i].name {
			return true
		}
	}
	return false
}

// shared tells whether another thread used the name ahead, and whether one of all uses, this one with them, was not by Bump.
func (h story) shared(i int) (other, mixed bool) {
	for j, x := range h[:i+1] {
		if (x.what == read || x.what == bump) && x.name == h[i].name && !h.ownName(j) {
			other = other || x.thread != h[i].thread
			mixed = mixed || x.what == read
		}
	}
	return other, mixed
}

func (h story) wrong(ds []api.Decl, i int) bool {
	held := h.held(i)
	switch x := h[i]; x.what {
	case take:
		return slices.Contains(held, x.name)
	case give:
		return len(held) == 0 || held[len(held)-1] != x.name
	case end:
		return !slices.Equal(held, h.held(h.opening(i)))
	case read, bump:
		n := slices.IndexFunc(ds, func(d api.Decl) bool { return d.Name == x.name })
		if n < 0 || h.ownName(i) {
			return false
		}
		if ds[n].By != "" {
			return !slices.Contains(held, ds[n].By)
		}
		other, mixed := h.shared(i)
		return !ds[n].Lock && other && mixed
	}
	return false
}

// plain is the document's rules once more: the first thing of all that happen that is wrong by itself. It is of declarations of unlike names.
func plain(p api.Program) (happening, bool) {
	h := storyOf(p)
	for i := range h {
		if h.wrong(p.Decls, i) {
			return h[i], true
		}
	}
	return happening{}, false
}
