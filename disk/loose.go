package disk

// loose is a write that is not synced: it lays of its bytes as many as keep says over its place, and tells whether that is one of those it was given.
type loose func(p places, keep int) bool

// whole is the number of a choice by which all of a write is kept.
const whole = 1

// writeOf gives the write of b; b is the write's own from then on.
func writeOf(place int, b []byte) loose {
	return func(p places, keep int) bool {
		copy(p[place], b[:kept(keep, len(b))])
		return p[place] != nil
	}
}

// kept tells how many of a write's n bytes that number of a choice keeps.
func kept(keep, n int) int {
	switch {
	case keep <= 0:
		return 0
	case keep == whole:
		return n
	}
	return rest(keep-1, n+1)
}

// next gives the i-th of the numbers, which begin again behind the last one.
func next(numbers []int, i int) int {
	if len(numbers) == 0 {
		return 0
	}
	return numbers[i%len(numbers)]
}

// rest gives n modulo m, from 0 to m - 1, also of an n below 0.
func rest(n, m int) int {
	r := n % m
	if r < 0 {
		r += m
	}
	return r
}
