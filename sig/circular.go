package sig

import "slices"

// circular are those from which ways lead back to themselves, by their indices.
func circular(ways [][]int) []int {
	s := search{ways: ways, tried: make([]int, len(ways)), met: make([]int, len(ways)), back: make([]int, len(ways))}
	var found []int
	for start := range ways {
		if s.met[start] == 0 {
			found = append(found, s.from(start)...)
		}
	}
	return found
}

// search goes along ways, and meets each one once. It keeps its own path: a chain may be longer than calls may lie in one another.
type search struct {
	ways  [][]int
	tried []int // how many of each one's ways
	count int   // of those that were met
	met   []int // each one's number in the order in which they were met, from 1 on
	back  []int // the least number to which each one was seen to lead
	path  []int // from where the search began to where it is
	open  []int // those that were met, and may lie in a ring with what is on the path
}

// from are those, of what is met from a start on, that lead back to themselves.
func (s *search) from(start int) []int {
	var found []int
	s.meet(start)
walking:
	for len(s.path) > 0 {
		here := s.path[len(s.path)-1]
		for s.tried[here] < len(s.ways[here]) {
			next := s.ways[here][s.tried[here]]
			s.tried[here]++
			if s.met[next] == 0 {
				s.meet(next)
				continue walking
			}
			s.back[here] = min(s.back[here], s.met[next])
		}
		found = append(found, s.leave()...)
	}
	return found
}

// meet goes on to one that was not met yet.
func (s *search) meet(next int) {
	s.count++
	s.met[next], s.back[next] = s.count, s.count
	s.path = append(s.path, next)
	s.open = append(s.open, next)
}

// leave goes a step back. If no way leads from here to what was met before, those that are open from here on lead to each other; they are told if they lead back to themselves.
func (s *search) leave() []int {
	last := len(s.path) - 1
	here := s.path[last]
	s.path = s.path[:last]
	if s.back[here] < s.met[here] {
		before := s.path[last-1]
		s.back[before] = min(s.back[before], s.back[here])
		return nil
	}
	begin := len(s.open) - 1
	for s.open[begin] != here {
		begin--
	}
	group := slices.Clone(s.open[begin:])
	s.open = s.open[:begin]
	for _, one := range group {
		// Beyond all numbers: nothing leads back over it any more.
		s.met[one] = len(s.ways) + 1
	}
	if len(group) == 1 && !slices.Contains(s.ways[here], here) {
		return nil
	}
	return group
}
