package annals

// has tells whether a state is there, neither swept nor yet to come.
func (s *Store) has(state int) bool {
	return state >= s.floor && state <= s.now
}

// leastHeld tells the least state that is held.
func (s *Store) leastHeld() int {
	least := s.now
	for _, w := range s.works {
		least = min(least, w.began)
	}
	for state := range s.pins {
		least = min(least, state)
	}
	for _, x := range s.copyings {
		least = min(least, x.leastNeeded())
	}
	return least
}

// allPins tells how many pins there are, those of one state counted each.
func (s *Store) allPins() int {
	n := 0
	for _, times := range s.pins {
		n += times
	}
	return n
}
