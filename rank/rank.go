// Package rank is layer 2, what stands ahead of what: see shared/doc/02-rank.md.
package rank

import (
	"cmp"

	"bonsai/api"
	"bonsai/bits"
)

const top = 1 << 63

// Key tells a number by which f stands among all others: sizes below nought rise the other way, so theirs are turned.
func Key(f float64) uint64 {
	u := bits.Bits(f)
	if u&top == 0 {
		return u | top
	}
	return ^u
}

// Unkey tells the number whose Key is k, if there is one.
func Unkey(k uint64) (float64, bool) {
	u := ^k
	if k&top != 0 {
		u = k &^ top
	}
	if !bits.Canon(u) {
		return 0, false
	}
	return bits.Float(u), true
}

// Compare tells how a stands to b by their Keys.
func Compare(a float64, b float64) int {
	return cmp.Compare(Key(a), Key(b))
}

// Between tells the number in the middle of a and b, if there is one.
func Between(a float64, b float64) (float64, bool) {
	low, high := Key(a), Key(b)
	if low > high {
		low, high = high, low
	}
	if high-low < 2 {
		return 0, false
	}
	// Half of what lies between is added, since the sum of both may pass 64 bits.
	return Unkey(low + (high-low)/2)
}

// Before tells whether a is ahead of b.
func Before(a api.Time, b api.Time) bool {
	return first(
		func() int { return cmp.Compare(a.Counter, b.Counter) },
		func() int { return cmp.Compare(a.Replica, b.Replica) },
	) < 0
}

// Less tells whether a stands ahead of b among the rows of one Parent.
func Less(a api.Row, b api.Row) bool {
	return first(
		func() int { return Compare(a.Rank, b.Rank) },
		func() int { return cmp.Compare(a.Child, b.Child) },
	) < 0
}

// first tells what the first way says by which two are not alike; a way behind it counts for nothing, so it is not gone.
func first(ways ...func() int) int {
	for _, way := range ways {
		if c := way(); c != 0 {
			return c
		}
	}
	return 0
}
