package query

// write writes a pattern behind what is written; with or without its words, which change nothing of what it fits.
func (p *pattern) write(b []byte, words bool) []byte {
	if p.bracket {
		b = p.writeBracket(b, words)
	} else {
		b = append(b, p.head...)
	}
	for _, c := range p.checks {
		b = append(b, ' ', c.sign, ' ')
		b = append(b, quoted(c.text)...)
	}
	if words && p.word != "" {
		b = append(b, " @"...)
		b = append(b, p.word...)
	}
	return b
}

func (p *pattern) writeBracket(b []byte, words bool) []byte {
	b = append(b, '(')
	b = append(b, p.head...)
	for _, x := range p.parts {
		b = append(b, ' ')
		if x.near {
			b = append(b, ". "...)
		}
		if x.deep {
			b = append(b, "~ "...)
		}
		b = x.write(b, words)
	}
	if p.last {
		b = append(b, " ."...)
	}
	return append(b, ')')
}

// written is how a name is written: as a word, if it is one.
func written(name string) string {
	if name != "" && wordLength(name) == len(name) {
		return name
	}
	return quoted(name)
}

// quoted is a string as it is written.
func quoted(text string) string {
	const digits = "0123456789abcdef"
	b := []byte{'"'}
	for i := range len(text) {
		switch c := text[i]; {
		case c == '"' || c == '\\':
			b = append(b, '\\', c)
		case printable(int(c)):
			b = append(b, c)
		default:
			b = append(b, '\\', 'x', digits[c>>4], digits[c&15])
		}
	}
	return string(append(b, '"'))
}

// printable says whether a byte may stand in a string as it is, but for the quote and the backslash.
func printable(c int) bool { return 32 <= c && c <= 126 }
