package relex

import (
	"slices"

	"graft/api"
)

// Compose is one edit that does two, where one can.
func Compose(a, b api.Edit) (api.Edit, bool) {
	if !bounded(a) || !bounded(b) {
		return api.Edit{}, false
	}
	end, upto := a.At+len(a.Ins), b.At+b.Del // where, in the text between the two, what a put in and what b takes out end
	if b.At > end || upto < a.At {
		return api.Edit{}, false
	}
	front := a.Ins[:max(b.At-a.At, 0)]
	back := a.Ins[min(upto-a.At, len(a.Ins)):]
	if len(front)+len(b.Ins)+len(back) > api.MaxText {
		return api.Edit{}, false
	}
	return api.Edit{
		At:  min(a.At, b.At),
		Del: a.Del + max(a.At-b.At, 0) + max(upto-end, 0),
		Ins: slices.Concat(front, b.Ins, back),
	}, true
}

// bounded says whether the numbers of an edit, and its bytes, are such as a text can have.
func bounded(e api.Edit) bool {
	return 0 <= e.At && e.At <= api.MaxText && 0 <= e.Del && e.Del <= api.MaxText && len(e.Ins) <= api.MaxText
}
