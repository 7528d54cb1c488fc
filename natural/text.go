package natural

import (
	"slices"

	"exactppl/api"
)

// Decimal digits are converted in groups: the greatest groups that fit into a limb.
const (
	groupDigits = 9
	groupBase   = 1000000000
)

// Parse reads a number of decimal digits. It returns ErrSyntax if s has not this form, and ErrLimit if it has more than MaxDigits digits.
func Parse(s string) ([]uint32, api.Errno) {
	if s == "" {
		return nil, api.ErrSyntax
	}
	for i := range len(s) {
		if s[i] < '0' || s[i] > '9' {
			return nil, api.ErrSyntax
		}
	}
	if len(s) > api.MaxDigits {
		return nil, api.ErrLimit
	}
	var number []uint32
	for i := range len(s) {
		number = appendDigit(number, s[i]-'0')
	}
	return number, api.OK
}

// appendDigit replaces a by 10 a + digit, and returns it with a further limb if there is a carry.
func appendDigit(a []uint32, digit byte) []uint32 {
	carry := uint32(digit)
	for i, limb := range a {
		carry, a[i] = multiplyAdd(limb, 10, 0, carry)
	}
	if carry != 0 {
		a = append(a, carry)
	}
	return a
}

// Format returns a in decimal without leading zeros.
func Format(a []uint32) string {
	rest := Trim(a)
	var text []byte // the last digit first
digits:
	for {
		group := divideByLimb(rest, groupBase)
		rest = strip(rest)
		for range groupDigits {
			text = append(text, '0'+byte(group%10))
			group /= 10
			if group == 0 && len(rest) == 0 {
				break digits
			}
		}
	}
	slices.Reverse(text)
	return string(text)
}
