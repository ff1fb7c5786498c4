package shell

import (
	"strconv"
	"strings"

	"graft/api"
)

// tooLong is the answer to a script that is too long, and to a line for whose answer there is no room.
const tooLong = "long"

// tell puts the words of an answer together.
func tell(words ...string) string { return strings.Join(words, " ") }

// answer tells an error alone, and the words behind ok.
func answer(err api.Errno, words ...string) string {
	if err != api.OK {
		return err.Error()
	}
	return tell(append([]string{err.Error()}, words...)...)
}

// refused tells a fault.
func refused(f api.Fault) string {
	return tell(f.Err.Error(), strconv.Itoa(f.At), Quote([]byte(f.Name)))
}

// each makes a word of each thing of a list.
func each[T any](list []T, word func(T) string) []string {
	words := make([]string, len(list))
	for i, x := range list {
		words[i] = word(x)
	}
	return words
}

// dotted is numbers as one word, with dots between.
func dotted(numbers ...int) string { return joined(numbers, '.') }

// joined is numbers as one word, with a sign between.
func joined(numbers []int, sign byte) string {
	var room [64]byte
	out := room[:0]
	for i, n := range numbers {
		if i > 0 {
			out = append(out, sign)
		}
		out = strconv.AppendInt(out, int64(n), 10)
	}
	return string(out)
}

// spanWord is a span as one word.
func spanWord(s api.Span) string { return dotted(s.From, s.To) }
