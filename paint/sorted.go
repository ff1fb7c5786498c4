package paint

import (
	"maps"
	"slices"
)

// sorted are the keys of a map, in the order by which they are told.
func sorted[K comparable, V any](m map[K]V, by func(a, b K) int) []K {
	return slices.SortedFunc(maps.Keys(m), by)
}
