package layout

import "graft/api"

// sheet is a text as it was, its pieces, and what is written of them.
type sheet struct {
	was    reading
	pieces []piece
	done   page
}

// page is a text that is being written.
type page struct {
	bytes    []byte
	spacings []api.Span // where that ahead of each piece stands
	over     bool       // more was to be written than a text may hold; from there on nothing is
}

func (w *page) text() string { return string(w.bytes) }

// add writes a part so many times.
func (w *page) add(part string, times int) {
	if w.over || part == "" {
		return
	}
	if times > (api.MaxText-len(w.bytes))/len(part) { // ahead of writing: depths are as great as trees are
		w.over = true
		return
	}
	for range times {
		w.bytes = append(w.bytes, part...)
	}
}

// write writes pieces of a text, each behind its spacing.
func (l *Layout) write(r reading, pieces []piece) page {
	var w page
	for _, p := range pieces {
		begin := len(w.bytes)
		l.space(&w, p, r.comments[p.from])
		w.spacings = append(w.spacings, api.Span{From: begin, To: len(w.bytes)})
		w.add(r.bytesOf(p), 1)
	}
	return w
}

// space writes the spacing ahead of a piece.
func (l *Layout) space(w *page, p piece, comments []string) {
	switch {
	case len(comments) > 0:
		l.list(w, p, comments)
	case p.form == asLine:
		l.endLine(w, p.depth)
	case p.form == asBlank:
		w.add(l.rules.Blank, 1)
	}
}

// list writes comments, each on a line of its own.
func (l *Layout) list(w *page, p piece, comments []string) {
	if !p.first {
		w.add(l.rules.Blank, 1)
	}
	for _, c := range comments {
		w.add(c, 1)
		l.endLine(w, p.depth)
	}
}

func (l *Layout) endLine(w *page, depth int) {
	w.add(l.rules.Line, 1)
	w.add(l.rules.Indent, depth)
}

// edits tells what makes the text as it was the one that is written.
func (s sheet) edits() []api.Edit {
	var list []api.Edit
	for i, p := range s.pieces {
		at, own := s.was.begins[p.from], s.was.own(p.from)
		want := s.done.bytes[s.done.spacings[i].From:s.done.spacings[i].To]
		if string(want) != s.was.text[at:own] {
			list = append(list, api.Edit{At: at, Del: own - at, Ins: append([]byte{}, want...)})
		}
	}
	return list
}
