package glob

import "math/bits"

// A byteSet has one bit for each byte: the lowest bit of the first word for the byte 0.
type byteSet [4]uint64

// textBytes returns the bytes that a text may have: 32 to 126.
func textBytes() byteSet {
	return byteSet{0xffffffff00000000, 0x7fffffffffffffff}
}

// add puts the bytes from first to last into the set.
func (s *byteSet) add(first, last byte) {
	for b := int(first); b <= int(last); b++ {
		s[b/64] |= 1 << (b % 64)
	}
}

// has reports whether a byte is in the set.
func (s *byteSet) has(b byte) bool {
	return s[b/64]>>(b%64)&1 == 1
}

// without returns the bytes of the set that are not in another one.
func (s byteSet) without(other byteSet) byteSet {
	for i := range s {
		s[i] &^= other[i]
	}
	return s
}

// both returns the bytes of the set that are in another one, too.
func (s byteSet) both(other byteSet) byteSet {
	for i := range s {
		s[i] &= other[i]
	}
	return s
}

// least returns the least byte of the set, and false if it is empty.
func (s byteSet) least() (byte, bool) {
	for i, word := range s {
		if word != 0 {
			return byte(i*64 + bits.TrailingZeros64(word)), true
		}
	}
	return 0, false
}
