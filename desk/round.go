package desk

import (
	"sync"

	"graft/api"
)

// round is the acts of one call, on their way to their replies.
type round struct {
	desk         *Desk
	acts         []api.Act
	replies      []api.Reply
	sizes        []int            // of what each reply is to tell: bytes, rows or spans
	bytes, items int              // how many bytes, how many rows and spans there is room for
	tasks        []*task          // of the stretch that is being done
	open         map[string]*task // those of documents that are there
	gone         int              // how many of them are of documents that are not
}

func newRound(d *Desk, acts []api.Act) *round {
	return &round{desk: d, acts: acts, replies: make([]api.Reply, len(acts)), sizes: make([]int, len(acts)), bytes: api.MaxPack, items: api.MaxDoc}
}

// all does the acts, stretch by stretch. What is told waits till all of a stretch is done: whether there is room for it hangs on all that is told ahead, of other documents too.
func (r *round) all() []api.Reply {
	for from := 0; from < len(r.acts); {
		to := r.share(from)
		r.work((*task).do)
		r.settle(from, to)
		r.work((*task).tell)
		from = to
	}
	return r.replies
}

// share opens and closes documents, in order, ahead of all else, and hands the other acts to their documents' tasks. It tells how far it came: closed documents stay in memory till their tasks are done, so it stops where there are many of them.
func (r *round) share(from int) int {
	r.tasks, r.open, r.gone = nil, map[string]*task{}, 0
	for from < len(r.acts) && r.gone < api.MaxDocs {
		r.replies[from].Err = r.take(from)
		from++
	}
	return from
}

// take does an act that opens or closes, and hands on any other one. What is wrong with that one by itself is told at once.
func (r *round) take(place int) api.Errno {
	a := r.acts[place]
	switch {
	case a.Kind < api.AOpen || a.Kind > api.AClose:
		return api.ErrArg
	case a.Kind == api.AOpen:
		return r.desk.open(a.Doc, a.Ins)
	case a.Kind == api.AClose:
		return r.close(a.Doc)
	case a.Session < 0 || a.Session >= api.MaxSessions:
		return api.ErrSession
	}
	return r.hand(place)
}

// close takes a document off the desk. What it was asked before is still to be done.
func (r *round) close(name string) api.Errno {
	if r.desk.docs[name] == nil {
		return api.ErrDoc
	}
	delete(r.desk.docs, name)
	if r.open[name] != nil {
		delete(r.open, name)
		r.gone++
	}
	return api.OK
}

// hand puts an act to its document's task.
func (r *round) hand(place int) api.Errno {
	name := r.acts[place].Doc
	doc := r.desk.docs[name]
	if doc == nil {
		return api.ErrDoc
	}
	t := r.open[name]
	if t == nil {
		t = &task{document: doc, round: r, wrong: map[int][]api.Span{}}
		r.open[name], r.tasks = t, append(r.tasks, t)
	}
	t.places = append(t.places, place)
	return api.OK
}

// work has the workers do something with all tasks, side by side, and waits for them.
func (r *round) work(do func(*task)) {
	queue := make(chan *task)
	var busy sync.WaitGroup
	defer busy.Wait()
	defer close(queue)
	for range min(r.desk.workers, len(r.tasks)) {
		busy.Add(1)
		go func() {
			defer busy.Done()
			for t := range queue {
				do(t)
			}
		}()
	}
	for _, t := range r.tasks {
		queue <- t
	}
}

// settle says, act by act, for which replies there is room.
func (r *round) settle(from, to int) {
	for i := from; i < to; i++ {
		left := &r.items
		if r.acts[i].Kind == api.AText {
			left = &r.bytes
		}
		if r.sizes[i] > *left {
			r.replies[i] = api.Reply{Err: api.ErrFull}
			continue
		}
		*left -= r.sizes[i]
	}
}
