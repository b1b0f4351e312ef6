package glob

// never stands for the length of a text that does not exist. It is greater than all lengths, also behind a few additions.
const never = 1 << 30

// A pair is a place in each of two alternatives: how many of their elements lie behind us.
type pair struct{ ours, theirs int }

// A search looks for the least text that two alternatives match.
type search struct {
	ours, theirs alternative
	lengths      map[pair]int  // the lengths of the shortest texts that match what is left from a pair on
	seen         map[pair]bool // the pairs that the text has come through
}

// leastCommon returns the least text that two alternatives match.
func leastCommon(a, b alternative) (string, bool) {
	s := search{ours: a, theirs: b, lengths: map[pair]int{}, seen: map[pair]bool{}}
	left := s.length(pair{})
	if left == never {
		return "", false
	}
	var text []byte
	front := s.gather(nil, pair{}, left)
	for left > 0 {
		left--
		b, next := s.advance(front, left)
		text = append(text, b)
		front = nil
		for _, at := range next {
			front = s.gather(front, at, left)
		}
	}
	return string(text), true
}

// length returns the length of the shortest text that matches what is left from a pair on, or never.
func (s *search) length(at pair) int {
	if n, ok := s.lengths[at]; ok {
		return n
	}
	n := never
	if at.ours == len(s.ours) && at.theirs == len(s.theirs) {
		n = 0
	}
	if next, ok := s.skipOurs(at); ok {
		n = min(n, s.length(next))
	}
	if next, ok := s.skipTheirs(at); ok {
		n = min(n, s.length(next))
	}
	if next, _, ok := s.step(at); ok {
		n = min(n, 1+s.length(next))
	}
	s.lengths[at] = n
	return n
}

// gather appends to front the pairs that are reached from a pair without a byte, itself included, and from which left bytes are enough.
func (s *search) gather(front []pair, at pair, left int) []pair {
	if s.seen[at] || s.length(at) != left {
		return front
	}
	s.seen[at] = true
	front = append(front, at)
	if next, ok := s.skipOurs(at); ok {
		front = s.gather(front, next, left)
	}
	if next, ok := s.skipTheirs(at); ok {
		front = s.gather(front, next, left)
	}
	return front
}

// advance returns the least byte with which a shortest text goes on from one of the pairs of front, and the pairs behind it; left bytes are enough from there.
func (s *search) advance(front []pair, left int) (byte, []pair) {
	least := byte(0)
	var reached []pair
	for _, at := range front {
		next, b, ok := s.step(at)
		if !ok || s.length(next) != left || len(reached) > 0 && b > least {
			continue
		}
		if b != least {
			least, reached = b, nil
		}
		reached = append(reached, next)
	}
	return least, reached
}

// skipOurs returns the pair behind a star of ours that matches no more bytes.
func (s *search) skipOurs(at pair) (pair, bool) {
	next := pair{at.ours + 1, at.theirs}
	return next, at.ours < len(s.ours) && s.ours[at.ours].star
}

// skipTheirs returns the pair behind a star of theirs that matches no more bytes.
func (s *search) skipTheirs(at pair) (pair, bool) {
	next := pair{at.ours, at.theirs + 1}
	return next, at.theirs < len(s.theirs) && s.theirs[at.theirs].star
}

// step returns the least byte that both alternatives can take at a pair, and the pair behind it. Two stars take none together, as that would lead nowhere.
func (s *search) step(at pair) (pair, byte, bool) {
	if at.ours == len(s.ours) || at.theirs == len(s.theirs) {
		return at, 0, false
	}
	a, b := &s.ours[at.ours], &s.theirs[at.theirs]
	if a.star && b.star {
		return at, 0, false
	}
	if !a.star {
		at.ours++
	}
	if !b.star {
		at.theirs++
	}
	least, ok := a.set.both(b.set).least()
	return at, least, ok
}
