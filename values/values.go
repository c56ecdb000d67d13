// Package values: sets of values, and the domains that are made of them.
package values

import (
	"math/bits"

	"fretwork/api"
)

// Set has one bit for each of a variable's values: api.MaxSize of them fit into a byte.
type Set uint8

// Domains has one set for each variable. It is an array, so that it is copied by = and compared by ==.
type Domains [api.MaxVars]Set

// Below has all values from 0 up to below size.
func Below(size int) Set { return 1<<size - 1 }

// One has this value alone.
func One(value int) Set { return 1 << value }

// Len tells how many values there are.
func (s Set) Len() int { return bits.OnesCount8(uint8(s)) }

// Each goes through the values, the least first.
func (s Set) Each(yield func(value int) bool) {
	for rest := s; rest != 0; rest &= rest - 1 {
		if !yield(bits.TrailingZeros8(uint8(rest))) {
			return
		}
	}
}

// List has the values, the least first, in memory of its own.
func (s Set) List() []int {
	list := make([]int, 0, s.Len())
	for value := range s.Each {
		list = append(list, value)
	}
	return list
}
