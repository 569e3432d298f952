package tag

import "math/bits"

// spare is a set of slots, of which the least one is wanted: a bit of each, since a great list of last Gens is a great set.
type spare struct {
	words []uint64
	from  int // no word ahead of it has a bit
}

// add lays a slot into the set.
func (s *spare) add(slot int) {
	word := slot / 64
	for len(s.words) <= word {
		s.words = append(s.words, 0)
	}
	s.words[word] |= 1 << (slot % 64)
	s.from = min(s.from, word)
}

// remove takes a slot out of the set, if it is there.
func (s *spare) remove(slot int) {
	if word := slot / 64; word < len(s.words) {
		s.words[word] &^= 1 << (slot % 64)
	}
}

// least is the least slot of the set.
func (s *spare) least() (int, bool) {
	for s.from < len(s.words) {
		if w := s.words[s.from]; w != 0 {
			return s.from*64 + bits.TrailingZeros64(w), true
		}
		s.from++
	}
	return 0, false
}
