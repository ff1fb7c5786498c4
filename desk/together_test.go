package desk_test

import (
	"fmt"
	"math/rand"
	"runtime"
	"slices"
	"sync"
	"testing"
	"time"

	"graft/api"
	"graft/desk"
	"graft/engine"
)

// busy is a long row of acts at many documents, with something of every kind.
func busy(r *rand.Rand, l language, docs, count int) (out []api.Act) {
	w := newDrawer(r, l)
	w.long = nil
	w.names = nil
	for i := range docs {
		w.names = append(w.names, fmt.Sprint("n", i))
		out = append(out, opens(w.names[i], some(r, l.texts...)))
	}
	return append(out, w.acts(count)...)
}

// unnumbered are replies whose Ids are numbered as they come, document by document of the acts.
func unnumbered(acts []api.Act, replies []api.Reply) []api.Reply {
	replies = slices.Clone(replies)
	numbers := map[string]map[int]int{}
	for i, a := range acts {
		if a.Kind == api.AOpen && replies[i].Err == api.OK {
			numbers[a.Doc] = map[int]int{}
		}
		rows := slices.Clone(replies[i].Rows)
		for k, row := range rows {
			m := numbers[a.Doc]
			if m[row.Id] == 0 {
				m[row.Id] = len(m) + 1
			}
			rows[k].Id = m[row.Id]
		}
		replies[i].Rows = rows
	}
	return replies
}

func wantAlike(t testing.TB, what string, a, b []api.Reply) {
	t.Helper()
	for i := range a {
		if !sameReply(a[i], b[i]) || !slices.Equal(a[i].Rows, b[i].Rows) {
			t.Fatalf("P1905: %s: reply %d: %+v, not %+v", what, i, b[i], a[i])
		}
	}
}

// TestWorkersTogether is P1905: the same acts are answered the same with 1, 2 and MaxWorkers workers, again and again, however many of them can run at one time.
func TestWorkersTogether(t *testing.T) {
	defer runtime.GOMAXPROCS(runtime.GOMAXPROCS(0))
	r := rand.New(rand.NewSource(1905))
	for _, l := range languages()[:3] {
		e := compiled(t, l.spec)
		acts := busy(r, l, 24, 1200)
		want := unnumbered(acts, laid(t, e, 1).Do(acts))
		for _, procs := range []int{1, 2, 8} {
			runtime.GOMAXPROCS(procs)
			for _, workers := range []int{1, 2, 5, api.MaxWorkers} {
				d := laid(t, e, workers)
				wantAlike(t, fmt.Sprint(workers, " workers"), want, unnumbered(acts, d.Do(acts)))
			}
		}
	}
}

// TestWorkersEnd: when Do answers its workers have ended.
func TestWorkersEnd(t *testing.T) {
	e := compiled(t, ten)
	before := runtime.NumGoroutine()
	for range 50 {
		d := laid(t, e, api.MaxWorkers)
		d.Do(busy(rand.New(rand.NewSource(7)), languages()[0], 20, 100))
		d.Do(crowd(70))
	}
	for range 5000 { // one that has done its last thing may still be about to go
		if runtime.NumGoroutine() <= before {
			return
		}
		time.Sleep(time.Millisecond)
	}
	t.Errorf("%d goroutines, and %d before", runtime.NumGoroutine(), before)
}

// turn is a Do that was answered.
type turn struct {
	acts []api.Act
	got  []api.Reply
}

// inSomeOrder says whether callers, behind a first turn, were answered what they would be one behind the other in some order, each one's turns in theirs, and whether the names at last are those of that order.
func inSomeOrder(e *engine.Engine, first turn, callers [][]turn, names []string) bool {
	var tries func(done []turn, at []int) bool
	tries = func(done []turn, at []int) bool {
		p, ok := replayed(e, done)
		if !ok {
			return false
		}
		last := true
		for i, row := range callers {
			if at[i] == len(row) {
				continue
			}
			last = false
			next := slices.Clone(at)
			next[i]++
			if tries(append(slices.Clone(done), row[at[i]]), next) {
				return true
			}
		}
		return last && slices.Equal(p.names(), names)
	}
	return tries([]turn{first}, make([]int, len(callers)))
}

// replayed is a plain desk at which turns are done; false: one was answered otherwise.
func replayed(e *engine.Engine, turns []turn) (*plain, bool) {
	p := &plain{e: e}
	for _, x := range turns {
		for i, want := range p.do(x.acts) {
			if !sameReply(x.got[i], want.Reply) {
				return nil, false
			}
		}
	}
	return p, true
}

// called has several callers do rows of acts at one desk, at one time; docs are asked for between.
func called(d *desk.Desk, rows [][][]api.Act) [][]turn {
	out := make([][]turn, len(rows))
	var all sync.WaitGroup
	begin := make(chan struct{})
	for i, row := range rows {
		all.Add(1)
		go func() {
			defer all.Done()
			<-begin
			for _, acts := range row {
				out[i] = append(out[i], turn{acts, d.Do(acts)})
				d.Docs()
			}
		}()
	}
	close(begin)
	all.Wait()
	return out
}

// TestCallersTogether is P1908: several callers at one time, with the same sessions at the same documents, are each answered as in some order of theirs; no Do is seen half done.
func TestCallersTogether(t *testing.T) {
	r := rand.New(rand.NewSource(1918))
	l := languages()[0]
	e := compiled(t, l.spec)
	for range 60 {
		d := laid(t, e, 1+r.Intn(4))
		w := newDrawer(r, l)
		w.long, w.names = nil, []string{"a", "b"}
		acts := list(opens("a", "1;2;"), opens("b", ""))
		first := turn{acts, d.Do(acts)}
		rows := make([][][]api.Act, 3)
		for i := range rows {
			for range 2 {
				rows[i] = append(rows[i], w.acts(8))
			}
		}
		got := called(d, rows)
		if !inSomeOrder(e, first, got, d.Docs()) {
			t.Fatalf("P1908: no order: %+v", got)
		}
	}
}

// TestWholeTogether is P1908 in the large: the versions that one Do makes stand side by side, and each text is that of one caller's edits.
func TestWholeTogether(t *testing.T) {
	const callers, times, each = 8, 20, 5
	d := tenDesk(t, opens("d", ""))
	rows := make([][][]api.Act, callers)
	for i := range rows {
		for range times {
			acts := list(jump(0))
			for k := range each {
				acts = append(acts, edit(k, 0, fmt.Sprint(i)))
			}
			rows[i] = append(rows[i], append(acts, ask(api.AText)))
		}
	}
	seen := map[int]int{}
	for i, row := range called(d, rows) {
		for _, x := range row {
			first := x.got[1].Version
			seen[first]++
			for k, reply := range x.got[1:] {
				if want := first + min(k, each-1); reply.Err != api.OK || reply.Version != want {
					t.Fatalf("P1908: caller %d: %v %d, not %d", i, reply.Err, reply.Version, want)
				}
			}
			if text := string(x.got[each+1].Text); text != fmt.Sprintf("%[1]d%[1]d%[1]d%[1]d%[1]d", i) {
				t.Fatalf("P1908: caller %d: %q", i, text)
			}
		}
	}
	for i := range callers * times {
		if seen[1+each*i] != 1 {
			t.Fatalf("P1908: %d callers made version %d", seen[1+each*i], 1+each*i)
		}
	}
	does(t, d, list(jump(callers*times*each), jump(callers*times*each+1)), fmt.Sprint(callers*times*each), "version")
}

// TestClosedTogether is P1904 and P1908: a desk is closed while others ask; each Do is done whole, or shut.
func TestClosedTogether(t *testing.T) {
	for range 30 {
		d := tenDesk(t, opens("d", "1;"))
		rows := make([][][]api.Act, 4)
		for i := range rows {
			name := fmt.Sprint("n", i)
			for range 12 {
				rows[i] = append(rows[i], list(opens(name, "2;"), asks(api.AText, 0, name), edits(0, name, 0, 0, "3"), asks(api.AText, 0, name), closes(name), ask(api.AText)))
			}
		}
		done := make(chan struct{})
		go func() {
			defer close(done)
			for range 20 {
				runtime.Gosched()
			}
			d.Close()
			d.Close()
		}()
		for _, row := range called(d, rows) {
			shut := false
			for _, x := range row {
				s := ""
				for k, reply := range x.got {
					s += word(x.acts[k], reply) + "|"
				}
				switch {
				case s == "shut|shut|shut|shut|shut|shut|":
					shut = true
				case shut || s != "0|0 2;|1|1 32;|0|0 1;|":
					t.Fatalf("P1908: %s", s)
				}
			}
		}
		<-done
		wantDocs(t, d)
	}
}

// TestDesksTogether is P3: desks of one engine are worked at by several at one time, and do not see one another.
func TestDesksTogether(t *testing.T) {
	l := languages()[1]
	e := compiled(t, l.spec)
	acts := busy(rand.New(rand.NewSource(1920)), l, 6, 150)
	want := unnumbered(acts, laid(t, e, 1).Do(acts))
	var all sync.WaitGroup
	for i := range 6 {
		all.Add(1)
		d := laid(t, e, 1+2*i)
		go func() {
			defer all.Done()
			got := unnumbered(acts, d.Do(acts))
			for k := range got {
				if !sameReply(got[k], want[k]) || !slices.Equal(got[k].Rows, want[k].Rows) {
					t.Errorf("P3: desk %d, reply %d", i, k)
				}
			}
		}()
	}
	all.Wait()
}
