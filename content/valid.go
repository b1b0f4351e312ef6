package content

import "coldplug/api"

// isValid reports whether a content is valid and at most so deep.
//
// It goes no deeper than that, so it ends also for a content that contains itself.
func isValid(c api.Content, deepest int) bool {
	if !fieldsFit(c) || c.Kind != api.ContentNone && deepest == 0 {
		return false
	}
	for _, inner := range c.Inner {
		if !isValid(inner, deepest-1) {
			return false
		}
	}
	return true
}

// fieldsFit reports whether the fields are right for the kind, whatever the Inner contents are.
func fieldsFit(c api.Content) bool {
	return innerFits(c) && idFits(c) && labelFits(c) && slotFits(c) && leastFits(c)
}

// innerFits reports whether there is such a kind, and whether it has so many Inner contents.
func innerFits(c api.Content) bool {
	switch c.Kind {
	case api.ContentNone, api.ContentFile:
		return len(c.Inner) == 0
	case api.ContentRaid, api.ContentCrypt:
		return len(c.Inner) == 1
	case api.ContentGroup, api.ContentTable:
		return isCount(len(c.Inner), api.MaxInner)
	}
	return false
}

// idFits reports whether ID is right for the kind.
func idFits(c api.Content) bool {
	if c.Kind == api.ContentNone {
		return c.ID == ""
	}
	return isID(c.ID)
}

// labelFits reports whether Label is right for the kind.
func labelFits(c api.Content) bool {
	return c.Label == "" || c.Kind == api.ContentFile && isID(c.Label)
}

// slotFits reports whether Slot and Total are right for the kind.
func slotFits(c api.Content) bool {
	switch c.Kind {
	case api.ContentRaid, api.ContentGroup:
		return isCount(c.Total, api.MaxInner) && isCount(c.Slot, c.Total)
	}
	return c.Slot == 0 && c.Total == 0
}

// leastFits reports whether Least is right for the kind.
func leastFits(c api.Content) bool {
	if c.Kind == api.ContentRaid {
		return isCount(c.Least, c.Total)
	}
	return c.Least == 0
}

// isCount reports whether n is from 1 to most.
func isCount(n, most int) bool { return 1 <= n && n <= most }

// isID reports whether s is an ID.
func isID(s string) bool {
	return s != "" && len(s) <= api.MaxID && idLength(s) == len(s)
}

// idLength returns how many bytes at the beginning of s may belong to an ID.
func idLength(s string) int {
	n := 0
	for n < len(s) && isIDByte(s[n]) {
		n++
	}
	return n
}

// isIDByte reports whether an ID may have the byte b.
func isIDByte(b byte) bool {
	switch {
	case 'A' <= b && b <= 'Z', 'a' <= b && b <= 'z', '0' <= b && b <= '9':
		return true
	}
	return b == '_' || b == '.' || b == '-'
}
