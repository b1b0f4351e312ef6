package name

// byteSet says of every byte whether it belongs to a set.
type byteSet [256]bool

const (
	capitals = "ABCDEFGHIJKLMNOPQRSTUVWXYZ"
	smalls   = "abcdefghijklmnopqrstuvwxyz"
	digits   = "0123456789"
)

// setOf returns the set of the bytes of a text.
func setOf(members string) byteSet {
	var set byteSet
	for i := range len(members) {
		set[members[i]] = true
	}
	return set
}

// nameBytes returns the bytes that a name may have.
func nameBytes() byteSet { return setOf(capitals + smalls + digits + "_.:+-!") }

// keyBytes returns the bytes that a key may have.
func keyBytes() byteSet { return setOf(capitals + digits + "_") }

// linkBytes returns the bytes that a component of a link name may have.
func linkBytes() byteSet { return setOf(capitals + smalls + digits + "_.:+-@#=%") }

// textBytes returns the bytes that a text may have.
func textBytes() byteSet {
	var set byteSet
	for b := 32; b <= 126; b++ {
		set[b] = true
	}
	return set
}

// consists reports whether all bytes of s belong to a set.
func consists(s string, set *byteSet) bool {
	for i := range len(s) {
		if !set[s[i]] {
			return false
		}
	}
	return true
}

// isCapital reports whether b is a capital letter.
func isCapital(b byte) bool { return 'A' <= b && b <= 'Z' }

// isDigit reports whether b is a digit.
func isDigit(b byte) bool { return '0' <= b && b <= '9' }
