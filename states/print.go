package states

import (
	"strconv"

	"graft/api"
)

// appendLine writes the line of a state with a number.
func (s state) appendLine(text []byte, n int) []byte {
	text = strconv.AppendInt(text, int64(n), 10)
	text = append(text, ':')
	for _, i := range s.kernel {
		text = append(text, ' ')
		text = i.appendTo(text)
	}
	text = append(text, " |"...)
	for _, a := range s.arcs {
		text = append(text, ' ')
		text = appendSymbol(text, a.symbol)
		text = append(text, '>')
		text = strconv.AppendInt(text, int64(a.to), 10)
	}
	return append(text, '\n')
}

func (i item) appendTo(text []byte) []byte {
	if i.production() < 0 {
		text = append(text, 's')
	} else {
		text = strconv.AppendInt(text, int64(i.production()), 10)
	}
	text = append(text, '.')
	return strconv.AppendInt(text, int64(i.dot()), 10)
}

func appendSymbol(text []byte, x api.Sym) []byte {
	switch x.Kind {
	case api.STerminal:
		text = append(text, 't')
	case api.SName:
		text = append(text, 'n')
	default:
		return append(text, 'e')
	}
	return strconv.AppendInt(text, int64(x.N), 10)
}
