package dfa

// cuts tells at which bytes behind the first a new class begins.
type cuts [256]bool

// classes parts the bytes: those of a class are side by side, and taken by the same positions.
type classes struct {
	class [256]int // of each byte
	first []int    // of each class its first byte
}

func (c *cuts) join(n *net) {
	for _, t := range n.takers[theEnd+1:] {
		c[t.from] = true
		if t.to < 255 {
			c[t.to+1] = true
		}
	}
}

func (c *cuts) classes() classes {
	var cs classes
	for b := range c {
		if b == 0 || c[b] {
			cs.first = append(cs.first, b)
		}
		cs.class[b] = len(cs.first) - 1
	}
	return cs
}
