// Package sieve has sets of small numbers as bits.
package sieve

import "math/bits"

// most is the greatest count of numbers that a set may be made for.
const most = 4096

// Sieve is a set. The zero one is for no number at all, as a nil one is.
type Sieve struct {
	n     int
	words []uint64 // bits behind the number n less 1 are never set
}

// New makes an empty one for the numbers 0 to n less 1.
func New(n int) *Sieve {
	n = between(n, 0, most)
	return &Sieve{n: n, words: make([]uint64, (n+63)>>6)}
}

// Put puts numbers in; how many were not in it.
func (s *Sieve) Put(l ...int) int {
	fresh := 0
	for _, k := range l {
		if s.may(k) && !s.Has(k) {
			s.words[k>>6] |= bit(k)
			fresh++
		}
	}
	return fresh
}

// Cut takes numbers out; how many were in it.
func (s *Sieve) Cut(l ...int) int {
	gone := 0
	for _, k := range l {
		if s.Has(k) {
			s.words[k>>6] &^= bit(k)
			gone++
		}
	}
	return gone
}

// Has tells whether a number is in it.
func (s *Sieve) Has(k int) bool {
	return s.may(k) && s.words[k>>6]&bit(k) != 0
}

// Next tells the least one from from on that is in it; -1: none.
func (s *Sieve) Next(from int) int {
	return s.seek(from, 0)
}

// Gap tells the least one from from on that may be in it and is not; -1: none.
func (s *Sieve) Gap(from int) int {
	return s.seek(from, ^uint64(0))
}

// Count tells how many are in it.
func (s *Sieve) Count() int {
	if s == nil {
		return 0
	}
	count := 0
	for _, w := range s.words {
		count += bits.OnesCount64(w)
	}
	return count
}

// All tells all, rising.
func (s *Sieve) All() []int {
	var all []int
	for k := s.Next(0); k >= 0; k = s.Next(k + 1) {
		all = append(all, k)
	}
	return all
}

// Word tells the 64 numbers from 64 times k on as bits, the least one lowest.
func (s *Sieve) Word(k int) uint64 {
	if s == nil || k < 0 || k >= len(s.words) {
		return 0
	}
	return s.words[k]
}

// Clear takes all out.
func (s *Sieve) Clear() {
	if s != nil {
		clear(s.words)
	}
}

// Mask tells the bits from from on and below to, each brought to 0 to 64.
func Mask(from, to int) uint64 {
	return below(to) &^ below(from)
}

// may tells whether k is one of the numbers that the set is for.
func (s *Sieve) may(k int) bool {
	return s != nil && 0 <= k && k < s.n
}

// seek tells the least number from from on whose bit differs from flip's: flip is all ones to seek what is missing. Each word is cut to the numbers that may be, so that the bits behind them are no gap.
func (s *Sieve) seek(from int, flip uint64) int {
	from = max(from, 0)
	if !s.may(from) {
		return -1
	}
	for k := from >> 6; k < len(s.words); k++ {
		base := k << 6
		w := (s.words[k] ^ flip) & Mask(from-base, s.n-base)
		if w != 0 {
			return base + bits.TrailingZeros64(w)
		}
	}
	return -1
}

// bit tells the bit of a number within its word.
func bit(k int) uint64 {
	return uint64(1) << (k & 63)
}

// below tells the lowest k bits. A shift by 64 leaves 0, and 0 less 1 is all of them.
func below(k int) uint64 {
	return uint64(1)<<between(k, 0, 64) - 1
}

// between brings k to the nearer end of low to high.
func between(k, low, high int) int {
	return min(max(k, low), high)
}
