package query

import (
	"math"
	"math/bits"
)

// known is what has been found out about the nodes that a pattern fits: each is asked once, whoever asks.
type known struct {
	fit   []uint64
	unfit crossed
}

func newKnown(size int) known {
	return known{fit: make([]uint64, words(size)), unfit: newCrossed(size)}
}

func (k *known) fits(i int) bool { return k.fit[i/64]>>(i%64)&1 == 1 }

func (k *known) setFit(i int) { k.fit[i/64] |= 1 << (i % 64) }

// crossed is a set of numbers that are crossed out. The first level has a bit for each number, each further one a bit for each word of the one below: whether that is crossed out whole. So the next number that is left is found in a few steps, however far it is.
type crossed struct {
	levels [][]uint64
}

// words tells how many words hold so many bits.
func words(size int) int { return (size + 63) / 64 }

func newCrossed(size int) crossed {
	var c crossed
	for {
		size = words(size)
		c.levels = append(c.levels, make([]uint64, size))
		if size == 1 {
			return c
		}
	}
}

// cross crosses a number out.
func (c *crossed) cross(i int) {
	for _, level := range c.levels {
		level[i/64] |= 1 << (i % 64)
		if level[i/64] != math.MaxUint64 {
			return
		}
		i /= 64
	}
}

// next tells the first number from one on that is left; one that is out of all bounds, if none is.
func (c *crossed) next(i int) int {
	for l, level := range c.levels {
		if i/64 >= len(level) {
			return math.MaxInt
		}
		if left := ^level[i/64] >> (i % 64); left != 0 {
			return c.lowest(l, i+bits.TrailingZeros64(left))
		}
		i = i/64 + 1
	}
	return math.MaxInt
}

// lowest tells the first number that is left of those that a bit of a level stands for. Behind the end of a level all bits are left: they stand for numbers out of bounds.
func (c *crossed) lowest(l, i int) int {
	for ; l > 0; l-- {
		if i >= len(c.levels[l-1]) {
			return math.MaxInt
		}
		i = i*64 + bits.TrailingZeros64(^c.levels[l-1][i])
	}
	return i
}
