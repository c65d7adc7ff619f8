// Package bits is layer 2: see shared/doc/02-bits.md.
package bits

import (
	"math/bits"

	"nightjar/num"
)

const (
	maxSize = 4096
	width   = 64
)

// Set is a set of numbers from 0 on.
type Set struct {
	size  int
	words []uint64
}

// New is a set without numbers, with room for so many.
func New(size int) *Set {
	size = num.Clamp(size, 0, maxSize)
	return &Set{size: size, words: make([]uint64, (size+width-1)/width)}
}

// Size is for how many there is room, Count how many there are.
func (s *Set) Size() int { return s.size }

func (s *Set) Count() int {
	n := 0
	for _, w := range s.words {
		n += bits.OnesCount64(w)
	}
	return n
}

// Has tells whether a number is in the set.
func (s *Set) Has(k int) bool {
	return s.fits(k) && s.words[k/width]&bit(k) != 0
}

// Put puts a number in; false: it is in, or there is no room for such a one.
func (s *Set) Put(k int) bool {
	if !s.fits(k) || s.Has(k) {
		return false
	}
	s.words[k/width] |= bit(k)
	return true
}

// Drop takes a number out; false: it isn't in.
func (s *Set) Drop(k int) bool {
	if !s.Has(k) {
		return false
	}
	s.words[k/width] &^= bit(k)
	return true
}

// Next is the least number of the set, from k on.
func (s *Set) Next(k int) (int, bool) { return s.least(k, 0) }

// Gap is the least number that isn't in the set, but that there is room for, from k on.
func (s *Set) Gap(k int) (int, bool) { return s.least(k, ^uint64(0)) }

// least is the least number from k on whose bit is 1 when the words are turned by flip.
func (s *Set) least(k int, flip uint64) (int, bool) {
	k = max(k, 0)
	if !s.fits(k) {
		return 0, false
	}
	// Of the first word the numbers below k don't count.
	mask := ^(bit(k) - 1)
	for i := k / width; i < len(s.words); i++ {
		w := (s.words[i] ^ flip) & mask
		if w != 0 {
			return s.within(i*width + bits.TrailingZeros64(w))
		}
		mask = ^uint64(0)
	}
	return 0, false
}

// within is k, if there is room for it: behind the size the last word has bits that flip turns to 1.
func (s *Set) within(k int) (int, bool) {
	if !s.fits(k) {
		return 0, false
	}
	return k, true
}

func (s *Set) fits(k int) bool { return k >= 0 && k < s.size }

// bit is the bit of k in its word.
func bit(k int) uint64 { return uint64(1) << (k % width) }
