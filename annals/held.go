package annals

// leastHeld tells the least state that is held.
func (s *Store) leastHeld() int {
	least := s.now
	for _, w := range s.works {
		least = min(least, w.began)
	}
	for state := range s.pins {
		least = min(least, state)
	}
	return least
}

// allPins tells how many pins there are, those of one state counted each.
func (s *Store) allPins() int {
	n := 0
	for _, times := range s.pins {
		n += times
	}
	return n
}
