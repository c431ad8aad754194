package integer

import (
	"slices"
	"strings"

	"substation/api"
)

// Decimal text is converted by groups of digits that fit into 32 bits.
const (
	maxText   = 4000          // bytes of a text
	groupSize = 9             // decimal digits of a group
	groupBase = 1_000_000_000 // 10 to the power of groupSize
)

// Text returns x in decimal.
func Text(x api.Int) string {
	if !Valid(x) {
		return ""
	}
	if len(x.Mag) == 0 {
		return "0"
	}
	// The text grows from its last character on.
	var text []byte
	rest := slices.Clone(x.Mag)
	for len(rest) > 0 {
		group := divideDigit(rest, groupBase)
		rest = trim(rest)
		for range groupSize {
			text = append(text, '0'+byte(group%10))
			group /= 10
		}
	}
	for text[len(text)-1] == '0' {
		text = text[:len(text)-1]
	}
	if x.Neg {
		text = append(text, '-')
	}
	slices.Reverse(text)
	return string(text)
}

// Parse parses a decimal integer.
func Parse(s string) (api.Int, api.Errno) {
	if len(s) > maxText {
		return api.Int{}, api.ErrLength
	}
	decimal, neg := strings.CutPrefix(s, "-")
	if !canonical(decimal) || neg && decimal == "0" {
		return api.Int{}, api.ErrSyntax
	}
	var mag []uint32
	for len(decimal) > 0 {
		n := (len(decimal)-1)%groupSize + 1
		mag = appendGroup(mag, decimal[:n])
		decimal = decimal[n:]
	}
	return signed(neg, mag)
}

// canonical reports whether s consists of decimal digits, without a leading zero.
func canonical(s string) bool {
	for i := range len(s) {
		if s[i] < '0' || s[i] > '9' {
			return false
		}
	}
	return s == "0" || s != "" && s[0] != '0'
}

// appendGroup writes the digits of a group behind those of mag, which it changes.
func appendGroup(mag []uint32, group string) []uint32 {
	var factor, carry uint64 = 1, 0
	for i := range len(group) {
		factor *= 10
		carry = carry*10 + uint64(group[i]-'0')
	}
	for i, d := range mag {
		t := uint64(d)*factor + carry
		mag[i], carry = uint32(t), t>>32
	}
	if carry > 0 {
		mag = append(mag, uint32(carry))
	}
	return mag
}
