package scan

import (
	"graft/api"
	"graft/dfa"
	"graft/rope"
)

// none is what the machine tells where there is no state or no rule.
const none = -1

const (
	stride    = 64                       // spots are kept in mind at the places that it divides
	mostSpots = 4 * api.MaxRope / stride // those of four searches through the longest text
)

// walk goes through a text from token to token.
type walk struct {
	machine *dfa.Machine
	reader  *rope.Reader
	at      int          // up to here the bytes are of tokens
	seen    []byte       // what was read of the text, but for bytes that are forgotten
	used    int          // how many at the front of seen lie ahead of at
	stops   map[spot]int // where a search stops that has found no rule's end from a spot on
	trail   []spot       // the spots that the search at hand came through since the last rule's end
}

// spot is a state of the machine behind the bytes up to a place. How a search goes on from a spot hangs on the spot
// alone; so one that comes to a spot from which an earlier one found nothing more ends as that did. A text in which
// token after token looks far is then not gone through to its end for each of them.
type spot struct {
	place, state int
}

// walk begins at a place of the text, which may be its end.
func (s *Scanner) walk(r *rope.Rope, at int) *walk {
	d, _ := r.Read(at)
	return &walk{machine: s.machine, reader: d, at: at}
}

// token tells the token at the place, and goes on to its end. The text must have a byte there.
func (w *walk) token() api.Token {
	begin, rule, state := w.at, api.KBad, 0
	n := 0 // how many bytes from w.at on were looked at
	w.trail = w.trail[:0]
next:
	b, more := w.look(n)
	n++ // at the text's end too, which counts as one byte
	if !more {
		return w.end(begin, rule, w.at+n)
	}
	state = w.machine.Next(state, int(b))
	if state == none {
		return w.end(begin, rule, w.at+n)
	}
	if found := w.machine.Accept(state); found != none {
		rule = found
		w.take(n)
		n = 0
		w.trail = w.trail[:0] // no later search comes to a spot within a token
		goto next
	}
	if stop, known := w.pass(spot{w.at + n, state}); known {
		return w.end(begin, rule, stop)
	}
	goto next
}

// look tells the n-th byte from the place on; false at the text's end.
func (w *walk) look(n int) (byte, bool) {
	if n += w.used; n == len(w.seen) {
		b, more := w.reader.Next()
		if !more {
			return 0, false
		}
		w.seen = append(w.seen, b)
	}
	return w.seen[n], true
}

// take goes on by n bytes that were looked at.
func (w *walk) take(n int) {
	w.at += n
	w.used += n
	if w.used > len(w.seen)/2 { // no sooner, so that moving the rest costs no more than reading did
		w.seen = w.seen[:copy(w.seen, w.seen[w.used:])]
		w.used = 0
	}
}

// pass tells where a search stops that comes to a spot, if that is known, and else leaves it on the trail.
func (w *walk) pass(here spot) (stop int, known bool) {
	if here.place%stride != 0 {
		return 0, false
	}
	if stop, known = w.stops[here]; !known {
		w.trail = append(w.trail, here)
	}
	return stop, known
}

// end tells the token of a search that stops.
func (w *walk) end(begin, rule, stop int) api.Token {
	w.remember(stop)
	if rule == api.KBad {
		w.take(1)
	}
	return api.Token{Rule: rule, Len: w.at - begin, Reach: stop - begin}
}

// remember keeps in mind where the search at hand stops, for those that come the same way.
func (w *walk) remember(stop int) {
	if len(w.trail) == 0 {
		return
	}
	if w.stops == nil || len(w.stops)+len(w.trail) > mostSpots {
		w.stops = map[spot]int{}
	}
	for _, s := range w.trail {
		w.stops[s] = stop
	}
}
