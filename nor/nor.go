// Package nor models the cells of a NOR flash memory: programming only clears
// bits, erasing only sets them, and a loss of power stops either halfway.
package nor

import "bytes"

const (
	erased    = 255
	mostBlank = 65536
)

// Blank returns n erased bytes; n is limited to the range 0 to 65,536.
func Blank(n int) []byte {
	b := make([]byte, max(0, min(n, mostBlank)))
	for i := range b {
		b[i] = erased
	}
	return b
}

// IsBlank reports whether all bytes of b are erased.
func IsBlank(b []byte) bool {
	for _, x := range b {
		if x != erased {
			return false
		}
	}
	return true
}

// Can reports whether old can be programmed to new: the lengths are equal and
// no bit rises.
func Can(old, new []byte) bool {
	if len(old) != len(new) {
		return false
	}
	for i := range old {
		if new[i]&^old[i] != 0 {
			return false
		}
	}
	return true
}

// Program returns the content after old has been programmed to new, or an
// empty slice if that is impossible.
func Program(old, new []byte) []byte {
	if !Can(old, new) {
		return nil
	}
	return bytes.Clone(new)
}

// Torn returns what is left if power is lost while old is programmed to new:
// the bits to be cleared that pick names are still set. It returns an empty
// slice if old cannot be programmed to new.
func Torn(old, new, pick []byte) []byte {
	if !Can(old, new) {
		return nil
	}
	left := bytes.Clone(new)
	for i := range min(len(left), len(pick)) {
		left[i] |= old[i] &^ new[i] & pick[i]
	}
	return left
}

// Between reports whether seen can be left if power is lost while old is
// programmed to new.
func Between(old, new, seen []byte) bool {
	// That old can be programmed to new follows from these two.
	return Can(old, seen) && Can(seen, new)
}

// Half returns what is left if power is lost while old is erased: the bits
// that pick names have risen already.
func Half(old, pick []byte) []byte {
	left := bytes.Clone(old)
	for i := range min(len(left), len(pick)) {
		left[i] |= pick[i]
	}
	return left
}

// Risen reports whether seen can be left if power is lost while old is erased.
func Risen(old, seen []byte) bool {
	// An erasure only sets bits, so programming undoes it.
	return Can(seen, old)
}
