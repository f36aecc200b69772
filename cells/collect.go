package cells

// collect frees all cells that cannot be reached, at once.
func (s *Store) collect() {
	reached := s.reached()
	for place := range s.places {
		if !reached[place] {
			s.places[place] = cell{}
		}
	}
}

// reached tells of each place if what lies there can be reached.
func (s *Store) reached() []bool {
	reached := make([]bool, len(s.places))
	var ahead []cell // reached, but not gone through yet
	visit := func(v Value) {
		if v.cell > 0 && !reached[v.cell-1] {
			reached[v.cell-1] = true
			ahead = append(ahead, s.at(v))
		}
	}
	s.roots(visit)
	for len(ahead) > 0 {
		last := len(ahead) - 1
		values := ahead[last].values
		ahead = ahead[:last]
		for _, v := range values {
			visit(v)
		}
	}
	return reached
}
