// Package modes is modes as numbers and as texts.
package modes

import (
	"strings"

	"gaoler/api"
)

const (
	classes   = 3      // the owner, the group, others
	perClass  = 3      // bits, and signs, of each
	classBits = 7      // all bits of one
	width     = 10     // signs of a kind and a mode
	digits    = 4      // of a mode by 8
	maxDigits = 8      // of a text that is read as a mode
	kindSigns = "?-dl" // at a kind's own number its sign; `?` at 0, which is none
)

// signs has what may stand in the third place of each class: with neither X
// nor the class's own bit, with X, with that bit, and with both.
var signs = [classes]string{"-xSs", "-xSs", "-xTt"}

// Show is a kind and a mode as a text of ten signs.
func Show(kind, mode int) string {
	s := make([]byte, 0, width)
	s = append(s, kindSign(kind))
	for k := range classes {
		bits := Class(mode, k)
		s = append(s, sign(bits&api.R != 0, 'r'), sign(bits&api.W != 0, 'w'), lastSign(mode, k))
	}
	return string(s)
}

// Read is the kind and the mode of a text of ten signs; false: it is none.
func Read(s string) (int, int, bool) {
	if len(s) != width {
		return 0, 0, false
	}
	kind := strings.IndexByte(kindSigns, s[0])
	mode := 0
	for k := range classes {
		at := 1 + perClass*k
		mode |= readClass(s[at:at+perClass], k)
	}
	// No other mode could be shown as s, so one that isn't means that none is.
	if kind < 0 || Show(kind, mode) != s {
		return 0, 0, false
	}
	return kind, mode, true
}

// Octal is a mode's four digits.
func Octal(mode int) string {
	var s [digits]byte
	for i := range digits {
		s[digits-1-i] = '0' + byte(mode>>(perClass*i)&classBits)
	}
	return string(s[:])
}

// ReadOctal is the mode that digits are.
func ReadOctal(s string) (int, api.Errno) {
	if len(s) == 0 || len(s) > maxDigits {
		return 0, api.EINVAL
	}
	n := 0
	for _, c := range s {
		if c < '0' || c > '7' {
			return 0, api.EINVAL
		}
		n = n*8 + int(c-'0')
	}
	if n > api.All {
		return 0, api.EINVAL
	}
	return n, api.OK
}

// Class is the three bits of the owner (0), the group (1) or others (2).
func Class(mode, k int) int {
	if !isClass(k) {
		return 0
	}
	return mode >> shift(k) & classBits
}

// With is a mode whose three bits of one of these are others.
func With(mode, k, bits int) int {
	mode &= api.All
	if !isClass(k) {
		return mode
	}
	return mode&^(classBits<<shift(k)) | (bits&classBits)<<shift(k)
}

func isClass(k int) bool { return k >= 0 && k < classes }

// shift is how far a class's bits stand from the least one.
func shift(k int) int { return perClass * (classes - 1 - k) }

// ownBit is the bit beyond R, W and X that is shown in a class.
func ownBit(k int) int { return api.Suid >> k }

func kindSign(kind int) byte {
	if kind < 0 || kind >= len(kindSigns) {
		kind = 0
	}
	return kindSigns[kind]
}

func sign(set bool, letter byte) byte {
	if set {
		return letter
	}
	return '-'
}

// lastSign is what stands in the third place of a class.
func lastSign(mode, k int) byte {
	i := Class(mode, k) & api.X
	if mode&ownBit(k) != 0 {
		i += 2
	}
	return signs[k][i]
}

// readClass is the bits that three signs of a class may stand for; signs that
// may not be there count for none.
func readClass(s string, k int) int {
	bits, own := 0, 0
	if s[0] == 'r' {
		bits |= api.R
	}
	if s[1] == 'w' {
		bits |= api.W
	}
	if i := strings.IndexByte(signs[k], s[2]); i >= 0 {
		bits |= i & api.X
		own = ownBit(k) * (i >> 1)
	}
	return With(own, k, bits)
}
