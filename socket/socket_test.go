package socket_test

import (
	"fmt"
	"math"
	"slices"
	"strings"
	"testing"

	"coldplug/api"
	"coldplug/socket"
)

// begin returns a socket of a capacity, to which some events were sent.
func begin(t *testing.T, capacity int, events ...int) *socket.Socket {
	t.Helper()
	s, err := socket.New(capacity)
	if s == nil || err != api.OK {
		t.Fatalf("New(%d): got %v, %v", capacity, s, err)
	}
	for _, n := range events {
		sends(t, s, n, api.OK)
	}
	return s
}

// event returns an event that differs in all fields from others.
func event(n int) api.Event {
	return api.Event{Seq: n, Action: 1 + n%6, Index: n + 1000, Path: fmt.Sprint("/p", n), Old: fmt.Sprint("/o", n)}
}

// sends sends an event and checks the result.
func sends(t *testing.T, s *socket.Socket, n int, want api.Errno) {
	t.Helper()
	if got := s.Send(event(n)); got != want {
		t.Errorf("Send %d: got %v, want %v", n, got, want)
	}
}

// receives checks what is received.
func receives(t *testing.T, s *socket.Socket, most int, want ...int) {
	t.Helper()
	var l []api.Event
	for _, n := range want {
		l = append(l, event(n))
	}
	if got := s.Receive(most); !slices.Equal(got, l) {
		t.Errorf("Receive(%d): got %v, want %v", most, got, l)
	}
}

// waits checks how many events wait.
func waits(t *testing.T, s *socket.Socket, want int) {
	t.Helper()
	if got := s.Len(); got != want {
		t.Errorf("Len: got %d, want %d", got, want)
	}
}

// asks checks whether events were lost.
func asks(t *testing.T, s *socket.Socket, want bool) {
	t.Helper()
	if got := s.Lost(); got != want {
		t.Errorf("Lost: got %v, want %v", got, want)
	}
}

// upTo returns the numbers from one on and below another.
func upTo(from, to int) []int {
	var l []int
	for n := from; n < to; n++ {
		l = append(l, n)
	}
	return l
}

// The example of the chapter.
func TestExample(t *testing.T) {
	s := begin(t, 2, 1, 2)
	sends(t, s, 3, api.ErrSocketFull)
	receives(t, s, 1, 1)
	sends(t, s, 4, api.OK)
	asks(t, s, true)
	asks(t, s, false)
	receives(t, s, 9, 2, 4)
	waits(t, s, 0)
}

// P6.1: capacities that there are; each holds as many events as it says.
func TestNew(t *testing.T) {
	for capacity := 1; capacity <= api.MaxQueue; capacity++ {
		s := begin(t, capacity)
		waits(t, s, 0)
		asks(t, s, false)
		receives(t, s, math.MaxInt)
		for n := range capacity {
			sends(t, s, n, api.OK)
			waits(t, s, n+1)
		}
		asks(t, s, false)
		sends(t, s, capacity, api.ErrSocketFull)
		waits(t, s, capacity)
		asks(t, s, true)
		receives(t, s, capacity, upTo(0, capacity)...)
		waits(t, s, 0)
	}
}

// P6.1: capacities that there are not.
func TestNewErrors(t *testing.T) {
	for _, capacity := range []int{math.MinInt, -api.MaxQueue, -1, 0, api.MaxQueue + 1, 1 << 32, 1<<32 + 1, math.MaxInt} {
		if s, err := socket.New(capacity); s != nil || err != api.ErrSocketSize {
			t.Errorf("New(%d): got %v, %v", capacity, s, err)
		}
	}
}

// P6.1, R5: sockets know nothing of each other.
func TestTwoSockets(t *testing.T) {
	a, b := begin(t, 1, 1), begin(t, 1)
	sends(t, a, 2, api.ErrSocketFull)
	waits(t, b, 0)
	asks(t, b, false)
	sends(t, b, 3, api.OK)
	receives(t, b, 9, 3)
	receives(t, a, 9, 1)
	asks(t, a, true)
}

// P6.2: the oldest most events are received, or all, or none.
func TestReceive(t *testing.T) {
	for most, want := range map[int]int{
		math.MinInt: 0, -1: 0, 0: 0, 1: 1, 2: 2, 3: 3, 4: 4, 5: 4, 1 << 32: 4, math.MaxInt: 4,
	} {
		for turned := range 6 {
			s := begin(t, 6, upTo(0, turned)...)
			receives(t, s, turned, upTo(0, turned)...)
			for n := 10; n < 14; n++ {
				sends(t, s, n, api.OK)
			}
			receives(t, s, most, upTo(10, 10+want)...)
			waits(t, s, 4-want)
			sends(t, s, 14, api.OK)
			receives(t, s, 9, upTo(10+want, 15)...)
			receives(t, s, most)
			waits(t, s, 0)
			asks(t, s, false)
		}
	}
}

// P6.2: events are handed on as they are, whatever is in them, also twice the same.
func TestAnyEvents(t *testing.T) {
	l := []api.Event{
		{},
		{Seq: 7, Action: api.ActMove, Index: 3, Path: "/a/x", Old: "/a/b"},
		{Seq: 7, Action: api.ActMove, Index: 3, Path: "/a/x", Old: "/a/b"},
		{Seq: 1},
		{Seq: -1, Action: 99, Index: math.MinInt, Path: "\xff\x00", Old: "no path"},
		{Seq: math.MaxInt, Path: strings.Repeat("/long", 1<<16)},
		{},
	}
	s := begin(t, len(l))
	for range 3 {
		for _, e := range l {
			if err := s.Send(e); err != api.OK {
				t.Errorf("Send(%v): got %v", e, err)
			}
		}
		got := append(s.Receive(3), s.Receive(9)...)
		if !slices.Equal(got, l) {
			t.Errorf("got %v, want %v", got, l)
		}
	}
}

// P6.2: what is lost takes no place of what waits, and never comes later.
func TestFull(t *testing.T) {
	s := begin(t, 3, 1, 2, 3)
	for n := 4; n < 9; n++ {
		sends(t, s, n, api.ErrSocketFull)
		waits(t, s, 3)
	}
	receives(t, s, 2, 1, 2)
	sends(t, s, 9, api.OK)
	sends(t, s, 10, api.OK)
	sends(t, s, 11, api.ErrSocketFull)
	receives(t, s, 9, 3, 9, 10)
	sends(t, s, 12, api.OK)
	receives(t, s, 9, 12)
	receives(t, s, 9)
}

// P6.3: Lost tells of each loss once, and of nothing else.
func TestLost(t *testing.T) {
	s := begin(t, 1, 1)
	asks(t, s, false)
	sends(t, s, 2, api.ErrSocketFull)
	sends(t, s, 3, api.ErrSocketFull)
	asks(t, s, true)
	asks(t, s, false)
	sends(t, s, 4, api.ErrSocketFull)
	receives(t, s, 0)
	receives(t, s, 1, 1)
	sends(t, s, 5, api.OK)
	waits(t, s, 1)
	receives(t, s, 1, 5)
	asks(t, s, true)
	asks(t, s, false)
	sends(t, s, 6, api.OK)
	receives(t, s, 9, 6)
	asks(t, s, false)
}

// P6.3: a socket and its copy go on alone, whichever of them is used first.
func TestCopy(t *testing.T) {
	for _, turned := range []bool{false, true} {
		s := begin(t, 3, 0, 1, 2)
		receives(t, s, 2, 0, 1)
		sends(t, s, 3, api.OK)
		used, other := s, s.Copy()
		if turned {
			used, other = other, used
		}
		waits(t, other, 2)
		sends(t, used, 4, api.OK)
		sends(t, used, 5, api.ErrSocketFull)
		waits(t, other, 2)
		asks(t, other, false)
		sends(t, other, 6, api.OK)
		sends(t, other, 7, api.ErrSocketFull)
		receives(t, used, 9, 2, 3, 4)
		waits(t, other, 3)
		asks(t, used, true)
		asks(t, other, true)
		receives(t, other, 1, 2)
		sends(t, other, 8, api.OK)
		waits(t, used, 0)
		receives(t, other, 9, 3, 6, 8)
		receives(t, used, 9)
	}
}

// P6.3: a loss that was not asked for is told by the copy, too, and by each of them once.
func TestCopyOfLoss(t *testing.T) {
	s := begin(t, 1, 1)
	sends(t, s, 2, api.ErrSocketFull)
	c, d := s.Copy(), s.Copy().Copy()
	asks(t, s, true)
	asks(t, s, false)
	asks(t, c, true)
	asks(t, c, false)
	asks(t, d, true)
	asks(t, s.Copy(), false)
	sends(t, c, 3, api.ErrSocketFull)
	receives(t, d, 9, 1)
	receives(t, s, 9, 1)
	receives(t, c, 9, 1)
}

// R4: what is done with what was received, also behind its end, reaches neither the socket, nor its copy, nor what is received later.
func TestReceivedSharesNothing(t *testing.T) {
	for turned := range 4 {
		s := begin(t, 4, upTo(0, turned)...)
		receives(t, s, turned, upTo(0, turned)...)
		for n := 10; n < 14; n++ {
			sends(t, s, n, api.OK)
		}
		c := s.Copy()
		first := s.Receive(2)
		kept := slices.Clone(first)
		_ = append(first, event(99), event(99))
		sends(t, s, 14, api.OK)
		sends(t, s, 15, api.OK)
		if !slices.Equal(first, kept) {
			t.Errorf("what was received became %v", first)
		}
		clear(first[:cap(first)])
		second := s.Receive(1)
		clear(second[:cap(second)])
		receives(t, s, 9, 13, 14, 15)
		receives(t, c, 9, 10, 11, 12, 13)
	}
}

// The chapter's consequences: as long as Lost reports false, nothing is missing, and what is there is in order.
func TestNothingMissing(t *testing.T) {
	s := begin(t, 5)
	var sent, got []api.Event
	seq, losses := 0, 0
	for round := range 300 {
		for range round % 7 {
			seq++
			sent = append(sent, event(seq))
			s.Send(event(seq))
		}
		lost := s.Lost()
		got = append(got, s.Receive(1+round%5)...)
		if lost {
			losses++
			for _, e := range append(got, s.Receive(9)...) {
				for len(sent) > 0 && sent[0] != e {
					sent = sent[1:]
				}
				if len(sent) == 0 {
					t.Fatalf("round %d: %v was not sent, or earlier", round, e)
				}
			}
			sent, got = nil, nil
		} else if n := s.Len(); !slices.Equal(got, sent[:len(sent)-n]) {
			t.Fatalf("round %d: got %v of %v, and %d wait", round, got, sent, n)
		}
	}
	if losses < 10 || losses > 290 {
		t.Errorf("%d losses", losses)
	}
}
