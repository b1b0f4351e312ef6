package socket

import (
	"testing"

	"coldplug/api"
)

// What was received or lost is not kept: the ring holds the events that wait and nothing else.
func TestRingKeepsNothing(t *testing.T) {
	s, _ := New(3)
	c := s
	for seq := range 40 {
		s.Send(api.Event{Seq: seq, Path: "/a", Old: "/b"})
		s.Receive(seq % 3)
		if seq%7 == 0 {
			c, s = s, s.Copy()
		}
		for _, x := range []*Socket{s, c} {
			held := 0
			for _, e := range x.ring {
				if e != (api.Event{}) {
					held++
				}
			}
			if held != x.Len() || len(x.ring) != 3 {
				t.Fatalf("%d: %d events wait, the ring is %v", seq, x.Len(), x.ring)
			}
		}
	}
}
