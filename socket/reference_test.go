package socket_test

import (
	"math"
	"math/rand"
	"slices"
	"testing"

	"coldplug/api"
	"coldplug/socket"
)

// reference is a socket as the chapter says it, word for word.
type reference struct {
	capacity int
	waiting  []api.Event
	lost     bool
}

func (r *reference) send(e api.Event) api.Errno {
	if len(r.waiting) == r.capacity {
		r.lost = true
		return api.ErrSocketFull
	}
	r.waiting = append(r.waiting, e)
	return api.OK
}

func (r *reference) receive(most int) []api.Event {
	var l []api.Event
	for len(l) < most && len(r.waiting) > 0 {
		l = append(l, r.waiting[0])
		r.waiting = r.waiting[1:]
	}
	return l
}

func (r *reference) asked() bool {
	lost := r.lost
	r.lost = false
	return lost
}

func (r *reference) copied() *reference {
	return &reference{r.capacity, slices.Clone(r.waiting), r.lost}
}

// check compares a socket with the reference, by what can be seen of a copy of it.
func check(t *testing.T, s *socket.Socket, r *reference) {
	t.Helper()
	if got := s.Len(); got != len(r.waiting) {
		t.Fatalf("Len: got %d, want %d", got, len(r.waiting))
	}
	c := s.Copy()
	if got := c.Lost(); got != r.lost {
		t.Fatalf("Lost: got %v, want %v", got, r.lost)
	}
	if got := c.Receive(math.MaxInt); !slices.Equal(got, r.waiting) {
		t.Fatalf("waiting: got %v, want %v", got, r.waiting)
	}
	if got := s.Len(); got != len(r.waiting) {
		t.Fatalf("Len behind Copy: got %d, want %d", got, len(r.waiting))
	}
}

// send does the same with a socket and the reference, as receive and ask do.
func send(t *testing.T, s *socket.Socket, r *reference, e api.Event) {
	t.Helper()
	if got, want := s.Send(e), r.send(e); got != want {
		t.Fatalf("Send(%v): got %v, want %v", e, got, want)
	}
}

func receive(t *testing.T, s *socket.Socket, r *reference, most int) {
	t.Helper()
	if got, want := s.Receive(most), r.receive(most); !slices.Equal(got, want) {
		t.Fatalf("Receive(%d): got %v, want %v", most, got, want)
	}
}

func ask(t *testing.T, s *socket.Socket, r *reference) {
	t.Helper()
	if got, want := s.Lost(), r.asked(); got != want {
		t.Fatalf("Lost: got %v, want %v", got, want)
	}
}

// walk goes through all sequences of so many steps, each behind a Copy, so that the socket itself must stay as it is.
func walk(t *testing.T, s *socket.Socket, r *reference, steps, seq int) {
	t.Helper()
	check(t, s, r)
	if steps == 0 {
		return
	}
	for step := range 5 {
		c, d := s.Copy(), r.copied()
		switch step {
		case 0:
			send(t, c, d, event(seq))
		case 1:
			receive(t, c, d, 1)
		case 2:
			receive(t, c, d, 2)
		case 3:
			receive(t, c, d, 9)
		case 4:
			ask(t, c, d)
		}
		walk(t, c, d, steps-1, seq+1)
		check(t, s, r)
	}
}

// P6.1 to P6.3: all short sequences of steps, for the least capacities and every place in the ring at which they begin.
func TestAllSequences(t *testing.T) {
	for capacity := 1; capacity <= 3; capacity++ {
		for turned := range capacity {
			s, r := begin(t, capacity), &reference{capacity: capacity}
			for i := range turned {
				send(t, s, r, event(i))
				receive(t, s, r, 1)
			}
			walk(t, s, r, 6, 100)
		}
	}
}

// P6.1 to P6.3: long random sequences for each capacity, in which it is full, empty, and turned many times.
func TestRandomSequences(t *testing.T) {
	random := rand.New(rand.NewSource(6))
	for capacity := 1; capacity <= api.MaxQueue; capacity++ {
		s, r := begin(t, capacity), &reference{capacity: capacity}
		full, empty, turned := 0, 0, 0
		for seq := 0; turned < 12*capacity || full < 3 || empty < 3; {
			for range random.Intn(capacity + 2) {
				seq++
				send(t, s, r, event(seq))
			}
			if len(r.waiting) == capacity {
				full++
			}
			if random.Intn(3) == 0 {
				ask(t, s, r)
			}
			before := len(r.waiting)
			receive(t, s, r, random.Intn(capacity+3)-1)
			turned += before - len(r.waiting)
			if len(r.waiting) == 0 {
				empty++
			}
			if random.Intn(4) == 0 {
				check(t, s, r)
			}
			if random.Intn(8) == 0 {
				s = s.Copy()
			}
		}
		check(t, s, r)
	}
}
