package codec

import "seamark/api"

const (
	digitBits = 7
	more      = 1 << digitBits // is added to each digit of a number but the last one
	maxDigits = 10
	// Nine digits have 63 of the 64 bits of a number.
	maxTenth = 1
)

// natural returns the natural number of an integer: 2 x, or -2 x - 1 for an x below 0.
func natural(x int) uint64 {
	double := 2 * uint64(x)
	if x < 0 {
		return -double - 1
	}
	return double
}

// integer returns the integer of a natural number.
func integer(n uint64) int {
	half := int(n / 2)
	if n%2 == 1 {
		return -half - 1
	}
	return half
}

// appendDigits returns out with the digits of n behind it.
func appendDigits(out []byte, n uint64) []byte {
	for n >= more {
		out = append(out, byte(n%more)+more)
		n /= more
	}
	return append(out, byte(n))
}

// firstDigits returns the digits of the first number of b.
func firstDigits(b []byte) ([]byte, api.Errno) {
	for i, digit := range b {
		if i == maxDigits-1 && digit > maxTenth {
			return nil, api.ErrForm
		}
		if digit >= more {
			continue
		}
		if digit == 0 && i > 0 {
			return nil, api.ErrForm
		}
		return b[:i+1], api.OK
	}
	return nil, api.ErrShort
}

// number returns the number whose digits are the lowest width bits of these bytes, the least significant digit first.
func number[N uint32 | uint64](digits []byte, width int) N {
	mask := N(1)<<width - 1
	var n N
	for i, digit := range digits {
		n |= (N(digit) & mask) << (i * width)
	}
	return n
}
