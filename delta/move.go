package delta

import "graft/api"

// sized says whether an edit's numbers are such as edits of a text may have.
func sized(e api.Edit) bool {
	return e.At >= 0 && e.At <= api.MaxText && e.Del >= 0 && e.Del <= api.MaxText && len(e.Ins) <= api.MaxText
}

// moved tells where a place comes to stand behind one edit.
func moved(place, bias int, e api.Edit) int {
	switch {
	case place < e.At:
		return place
	case place > e.At+e.Del:
		return place - e.Del + len(e.Ins)
	case bias < 0:
		return e.At
	}
	return e.At + len(e.Ins)
}
