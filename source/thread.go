package source

import (
	"tautochrone/api"
)

// thread is the blocks in which one stands, the inner ones behind, what its locals are, and what it has told. None of its frames is at its end but while a statement is done.
type thread struct {
	frames []frame
	// names are the locals in the order in which they were entered: none has the name of another one, or of a declaration.
	names  []string
	locals map[string]*uint64
	output []uint64
}

// frame is a block, where one stands in it, and how many locals there were ahead of it. Of a Loop it counts the rounds by itself, so that each loop ends whatever is done to its local.
type frame struct {
	block         []api.Stmt
	at            int
	mark          int
	counter       string
	round, rounds int
}

func newThread(ss []api.Stmt) thread {
	t := thread{locals: map[string]*uint64{}}
	t.open(frame{block: ss})
	t.settle()
	return t
}

func (t *thread) done() bool { return len(t.frames) == 0 }

func (t *thread) top() *frame { return &t.frames[len(t.frames)-1] }

// next is the statement that is done next, of a thread that is not done.
func (t *thread) next() api.Stmt { return t.top().block[t.top().at] }

func (t *thread) advance() { t.top().at++ }

// open lets a block's statements come next.
func (t *thread) open(f frame) {
	f.mark = len(t.names)
	t.frames = append(t.frames, f)
}

// loop lets a Loop's rounds come next.
func (t *thread) loop(s api.Stmt) {
	t.open(frame{block: s.Body, counter: s.Name, rounds: s.Count})
	t.enter(s.Name, 0)
}

// settle ends all blocks that are at their end, so that the thread stands at a statement, or is done.
func (t *thread) settle() {
	for len(t.frames) > 0 {
		f := t.top()
		if f.at < len(f.block) {
			return
		}
		t.leave(f.mark)
		if !t.again(f) {
			t.frames = t.frames[:len(t.frames)-1]
		}
	}
}

// again begins a loop's next round, if there is one. Rounds without statements are over at once.
func (t *thread) again(f *frame) bool {
	if len(f.block) == 0 || f.round+1 >= f.rounds {
		return false
	}
	f.round++
	f.at = 0
	t.enter(f.counter, uint64(f.round))
	return true
}

func (t *thread) enter(name string, value uint64) {
	t.names = append(t.names, name)
	t.locals[name] = &value
}

// leave forgets the locals behind so many.
func (t *thread) leave(mark int) {
	for _, name := range t.names[mark:] {
		delete(t.locals, name)
	}
	t.names = t.names[:mark]
}
