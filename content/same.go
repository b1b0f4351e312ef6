package content

import "coldplug/api"

// pair is two contents that are compared.
type pair struct{ a, b *api.Content }

// Same reports whether two contents are equal.
//
// Contents that are not valid may contain themselves, or the same memory over and over again. So contents that were compared once are taken to be equal from then on: as long as nothing else differs, they are.
func Same(a, b api.Content) bool {
	equal := classes{}
	left := []pair{{&a, &b}}
	for len(left) > 0 {
		last := len(left) - 1
		p := left[last]
		left = left[:last]
		if !equal.merge(p.a, p.b) {
			continue
		}
		if !sameFields(p.a, p.b) {
			return false
		}
		for i := range p.a.Inner {
			left = append(left, pair{&p.a.Inner[i], &p.b.Inner[i]})
		}
	}
	return true
}

// sameFields reports whether two contents are equal, and have the same number of Inner contents, whatever these are.
func sameFields(a, b *api.Content) bool {
	return a.Kind == b.Kind && a.ID == b.ID && a.Label == b.Label &&
		a.Slot == b.Slot && a.Total == b.Total && a.Least == b.Least &&
		len(a.Inner) == len(b.Inner)
}

// classes are sets of contents that are taken to be equal: each content leads to another one of its class, but for one, its head, which leads to none.
type classes map[*api.Content]*api.Content

// head returns the head of the class of a content.
func (k classes) head(c *api.Content) *api.Content {
	for k[c] != nil {
		if next := k[k[c]]; next != nil {
			// The way to the head is halved for those who come later.
			k[c] = next
		}
		c = k[c]
	}
	return c
}

// merge makes one class of those of two contents, and reports whether they were two.
func (k classes) merge(a, b *api.Content) bool {
	x, y := k.head(a), k.head(b)
	if x == y {
		return false
	}
	k[x] = y
	return true
}
