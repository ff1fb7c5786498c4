package pack

import "graft/api"

// fault is what is wrong with a pack, and where.
type fault struct {
	at  int
	err api.Errno
}

// caught tells the fault that a reading throws, if it throws one.
func caught(read func()) (f fault) {
	defer func() {
		if thrown := recover(); thrown != nil {
			f = thrown.(fault)
		}
	}()
	read()
	return fault{}
}

// fail throws a fault, for caught to tell.
func fail(at int, err api.Errno) { panic(fault{at, err}) }

// reader reads bytes from the left, and throws the first fault.
type reader struct {
	b  []byte
	at int
}

// many reads so many things, one behind the other. What is said to follow may not be there: the list grows only with what is.
func many[T any](count int, each func() T) []T {
	var list []T
	for range count {
		list = append(list, each())
	}
	return list
}

// bytes reads so many bytes. They stay the pack's own: who keeps some copies them.
func (r *reader) bytes(count int) []byte {
	if count > len(r.b)-r.at {
		fail(len(r.b), api.ErrCut)
	}
	r.at += count
	return r.b[r.at-count : r.at : r.at]
}

func (r *reader) u1() int { return int(r.bytes(1)[0]) }

func (r *reader) u2() int {
	b := r.bytes(2)
	return int(b[0]) | int(b[1])<<8
}

func (r *reader) u4() int {
	b := r.bytes(4)
	return int(b[0]) | int(b[1])<<8 | int(b[2])<<16 | int(b[3])<<24
}

// within reads a number that may not be below or above bounds.
func (r *reader) within(number func() int, least, most int) int {
	at := r.at
	n := number()
	if n < least || n > most {
		fail(at, api.ErrPack)
	}
	return n
}

// text reads how many bytes there are, at most so many, and these.
func (r *reader) text(count func() int, most int) []byte {
	return r.bytes(r.within(count, 0, most))
}

// word reads the bytes with which a pack begins.
func (r *reader) word(word string) {
	for _, c := range []byte(word) {
		r.within(r.u1, int(c), int(c))
	}
}

// end reads the sum of all that was read, behind which nothing may stand.
func (r *reader) end() {
	at := r.at
	if n := r.u4(); uint32(n) != sum(r.b[:at]) {
		fail(at, api.ErrSum)
	}
	if r.at < len(r.b) {
		fail(r.at, api.ErrPack)
	}
}
