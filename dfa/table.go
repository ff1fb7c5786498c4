package dfa

import "math/bits"

// table numbers rows of equal length in the order in which they come.
type table[N uint16 | uint64] struct {
	rows  [][]N
	known map[string]int
}

// number tells the number of a row; a row that is new is kept.
func (t *table[N]) number(row []N) int {
	if t.known == nil {
		t.known = map[string]int{}
	}
	k := key(row)
	n, found := t.known[k]
	if !found {
		n = len(t.rows)
		t.rows = append(t.rows, append([]N(nil), row...))
		t.known[k] = n
	}
	return n
}

// key makes a key of a row: rows of equal length have the same one just if they are alike.
func key[N uint16 | uint64](row []N) string {
	width := bits.Len64(uint64(^N(0)))
	k := make([]byte, 0, len(row)*width/8)
	for _, n := range row {
		for shift := 0; shift < width; shift += 8 {
			k = append(k, byte(n>>shift))
		}
	}
	return string(k)
}
