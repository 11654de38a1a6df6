// Package amount is layer 1: amounts, checked.
package amount

import "sutler/api"

// packed is how many bytes one amount takes: the fewest that hold MaxAmount.
const packed = 7

// Check tells why a number is no amount.
func Check(n int64) api.Errno {
	if n < 0 {
		return api.ErrBelow
	}
	if n > api.MaxAmount {
		return api.ErrOver
	}
	return api.OK
}

// CheckAll is the first error of both.
func CheckAll(a api.Amounts) api.Errno {
	if e := Check(a[0]); e != api.OK {
		return e
	}
	return Check(a[1])
}

// Add is both sums.
func Add(a, b api.Amounts) (api.Amounts, api.Errno) {
	if e := checkBoth(a, b); e != api.OK {
		return api.Amounts{}, e
	}
	// Two amounts are at most 2^51 together, so a sum can't wrap round.
	return told(api.Amounts{a[0] + b[0], a[1] + b[1]})
}

// Sub is both differences.
func Sub(a, b api.Amounts) (api.Amounts, api.Errno) {
	if e := checkBoth(a, b); e != api.OK {
		return api.Amounts{}, e
	}
	if !Fits(b, a) {
		return api.Amounts{}, api.ErrBelow
	}
	return api.Amounts{a[0] - b[0], a[1] - b[1]}, api.OK
}

// Fits tells whether the first fit into the second.
func Fits(a, b api.Amounts) bool {
	return checkBoth(a, b) == api.OK && lower(a, b) == a
}

// Sum is what some are together.
func Sum(l []api.Amounts) (api.Amounts, api.Errno) {
	// What is wrong anywhere in the list goes ahead of what is over, so all are checked first.
	for _, a := range l {
		if e := CheckAll(a); e != api.OK {
			return api.Amounts{}, e
		}
	}
	sum := api.Amounts{}
	for _, a := range l {
		// None is below 0: what is over stays over, and going on could wrap round.
		s, e := Add(sum, a)
		if e != api.OK {
			return api.Amounts{}, e
		}
		sum = s
	}
	return sum, api.OK
}

// Total is what some prices are together.
func Total(l []int64) (int64, api.Errno) {
	for _, n := range l {
		if e := Check(n); e != api.OK {
			return 0, e
		}
	}
	total := int64(0)
	for _, n := range l {
		total += n
		if e := Check(total); e != api.OK {
			return 0, e
		}
	}
	return total, api.OK
}

// Pack is both as bytes.
func Pack(a api.Amounts) ([14]byte, api.Errno) {
	if e := CheckAll(a); e != api.OK {
		return [14]byte{}, e
	}
	b := [14]byte{}
	for i := range b {
		b[i] = byte(a[i/packed] >> shift(i))
	}
	return b, api.OK
}

// Unpack is both of these bytes.
func Unpack(b [14]byte) (api.Amounts, api.Errno) {
	a := api.Amounts{}
	for i, c := range b {
		a[i/packed] |= int64(c) << shift(i)
	}
	return told(a)
}

// checkBoth is the error of the first ones, then of the second ones.
func checkBoth(a, b api.Amounts) api.Errno {
	if e := CheckAll(a); e != api.OK {
		return e
	}
	return CheckAll(b)
}

// told keeps beside an error the zero value.
func told(a api.Amounts) (api.Amounts, api.Errno) {
	if e := CheckAll(a); e != api.OK {
		return api.Amounts{}, e
	}
	return a, api.OK
}

// lower is the lower one of each two.
func lower(a, b api.Amounts) api.Amounts {
	return api.Amounts{min(a[0], b[0]), min(a[1], b[1])}
}

// shift is how far the i-th byte of packed amounts stands from its amount's lowest one, in bits.
func shift(i int) uint {
	return uint(i%packed) * 8
}
