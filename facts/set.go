package facts

import (
	"iter"
	"math/bits"
)

// Set: tokens and the END, by number: MaxTokens and one more have room in it.
type Set uint32

func only(token int) Set { return 1 << token }

// Has tells whether a number is in a set.
func (s Set) Has(token int) bool { return s&only(token) != 0 }

// All are the numbers in a set, the lesser ones first.
func (s Set) All() iter.Seq[int] {
	return func(yield func(int) bool) {
		for rest := s; rest != 0; rest &= rest - 1 {
			if !yield(bits.TrailingZeros32(uint32(rest))) {
				return
			}
		}
	}
}
