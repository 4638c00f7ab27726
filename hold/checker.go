package hold

import (
	"slices"

	"tautochrone/api"
)

// checker goes through threads, and knows what there is where it stands.
type checker struct {
	cells  []cell
	thread int
	// held are the locks in the order in which they were taken.
	held []string
	// entered are the locals by the order in which they were entered; hidden counts them by their names, of which one may be entered in several blocks around each other.
	entered []string
	hidden  map[string]int
}

func newChecker(ds []api.Decl) *checker {
	return &checker{cells: cellsOf(ds), hidden: map[string]int{}}
}

func (c *checker) run(thread int, ss []api.Stmt) error {
	if len(ss) == 0 {
		return nil
	}
	c.thread = thread
	return c.block(ss, ss[0].At)
}

// block tells at a place of its caller's, if the locks are not left as they were found. They are held against each other in their order: else it would hang on a run which of them was taken last.
func (c *checker) block(ss []api.Stmt, at int) error {
	defer c.leave(len(c.entered))
	found := slices.Clone(c.held)
	for _, s := range ss {
		if err := c.stmt(s); err != nil {
			return err
		}
	}
	if !slices.Equal(c.held, found) {
		return wrong(at)
	}
	return nil
}

func (c *checker) stmt(s api.Stmt) error {
	if err := c.exprs(s.Exprs); err != nil {
		return err
	}
	switch s.Kind {
	case api.Local:
		c.enter(s.Name)
	case api.Assign, api.Store:
		return c.use(s.Name, false, s.At)
	case api.Bump:
		return c.use(s.Name, true, s.At)
	case api.Take:
		return c.take(s)
	case api.Give:
		return c.give(s)
	case api.If:
		return c.choice(s)
	case api.Loop:
		return c.loop(s)
	}
	return nil
}

func (c *checker) exprs(es []api.Expr) error {
	for _, e := range es {
		if e.Kind == api.Name || e.Kind == api.Cell {
			if err := c.use(e.Name, false, e.At); err != nil {
				return err
			}
		}
		if err := c.exprs(e.Kids); err != nil {
			return err
		}
	}
	return nil
}

// use asks each declaration of a name: that there is but one is told elsewhere.
func (c *checker) use(name string, bump bool, at int) error {
	if c.hidden[name] > 0 {
		return nil
	}
	for i := range c.cells {
		x := &c.cells[i]
		if x.Name == name && !x.use(c.thread, c.held, bump) {
			return wrong(at)
		}
	}
	return nil
}

func (c *checker) take(s api.Stmt) error {
	if slices.Contains(c.held, s.Name) {
		return wrong(s.At)
	}
	c.held = append(c.held, s.Name)
	return nil
}

func (c *checker) give(s api.Stmt) error {
	last := len(c.held) - 1
	if last < 0 || c.held[last] != s.Name {
		return wrong(s.At)
	}
	c.held = c.held[:last]
	return nil
}

func (c *checker) choice(s api.Stmt) error {
	if err := c.block(s.Body, s.At); err != nil {
		return err
	}
	return c.block(s.Else, s.At)
}

func (c *checker) loop(s api.Stmt) error {
	defer c.leave(len(c.entered))
	c.enter(s.Name)
	return c.block(s.Body, s.At)
}

func (c *checker) enter(name string) {
	c.entered = append(c.entered, name)
	c.hidden[name]++
}

// leave forgets the locals behind so many.
func (c *checker) leave(mark int) {
	for _, name := range c.entered[mark:] {
		c.hidden[name]--
	}
	c.entered = c.entered[:mark]
}
