package codec_test

import (
	"math/big"
	"slices"

	"seamark/api"
)

// The oracle computes with numbers of any size, byte by byte and bit by bit, in the words of the chapter.

// modulus is 2^64.
func modulus() *big.Int { return new(big.Int).Lsh(big.NewInt(1), 64) }

// naturalOf returns the natural number of an integer.
func naturalOf(x int) *big.Int {
	n := new(big.Int).Mul(big.NewInt(2), big.NewInt(int64(x)))
	if x < 0 {
		n.Neg(n).Sub(n, big.NewInt(1))
	}
	return n
}

// integerOf returns the integer of a natural number, and whether there is one.
func integerOf(n *big.Int) (int, bool) {
	x := new(big.Int).Div(n, big.NewInt(2))
	if n.Bit(0) == 1 {
		x.Neg(x).Sub(x, big.NewInt(1))
	}
	return int(x.Int64()), x.IsInt64()
}

// digitsOf returns the digits of a natural number, as bytes.
func digitsOf(n *big.Int) []byte {
	var out []byte
	for {
		rest, digit := new(big.Int).DivMod(n, big.NewInt(128), new(big.Int))
		if rest.Sign() == 0 {
			return append(out, byte(digit.Int64()))
		}
		out = append(out, byte(128+digit.Int64()))
		n = rest
	}
}

// bytesOf returns what Put has to return.
func bytesOf(list []int) []byte {
	var out []byte
	for _, x := range list {
		out = append(out, digitsOf(naturalOf(x))...)
	}
	return out
}

// integersOf returns what Get has to return.
func integersOf(b []byte) ([]int, api.Errno) {
	var list []int
	for len(b) > 0 {
		end := slices.IndexFunc(b, func(x byte) bool { return x < 128 })
		if (end < 0 || end >= 9) && len(b) >= 10 && b[9] > 1 || end > 0 && b[end] == 0 {
			return nil, api.ErrForm
		}
		if end < 0 {
			return nil, api.ErrShort
		}
		n := new(big.Int)
		for i := end; i >= 0; i-- {
			n.Mul(n, big.NewInt(128)).Add(n, big.NewInt(int64(b[i]%128)))
		}
		x, ok := integerOf(n)
		if !ok {
			panic("a number of more than 64 bits")
		}
		list, b = append(list, x), b[end+1:]
	}
	return list, api.OK
}

// sumOf returns the checksum of bytes.
func sumOf(b []byte) uint32 {
	const all = 1<<32 - 1
	c := all
	for _, x := range b {
		c ^= int(x)
		for range 8 {
			if c%2 == 1 {
				c = c/2 ^ 0xEDB88320
			} else {
				c /= 2
			}
		}
	}
	return uint32(c ^ all)
}

// frameOf returns what Frame has to return.
func frameOf(b []byte) ([]byte, api.Errno) {
	if len(b) > 65535 {
		return nil, api.ErrLimit
	}
	front := slices.Concat([]byte{byte(len(b) / 256), byte(len(b) % 256)}, b)
	sum := int(sumOf(front))
	for range 4 {
		front, sum = append(front, byte(sum%256)), sum/256
	}
	return front, api.OK
}

// openedOf returns what Open has to return.
func openedOf(b []byte) opened {
	if len(b) < 2 {
		return refused(api.ErrShort)
	}
	n := int(b[0])*256 + int(b[1])
	if len(b) < n+6 {
		return refused(api.ErrShort)
	}
	inside := b[2 : n+2]
	whole, _ := frameOf(inside)
	if !slices.Equal(whole, b[:n+6]) {
		return refused(api.ErrSum)
	}
	return opened{string(inside), n + 6, api.OK}
}

// digestOf returns the digest of integers.
func digestOf(list []int) uint64 {
	number := func(text string) *big.Int {
		n, _ := new(big.Int).SetString(text, 0)
		return n
	}
	h := number("0x9E3779B97F4A7C15")
	h.Add(h, big.NewInt(int64(len(list)))).Mod(h, modulus())
	for _, x := range list {
		n := big.NewInt(int64(x))
		h.Xor(h, n.Mod(n, modulus()))
		h.Mul(h, number("0x9FB21C651E98DF25")).Mod(h, modulus())
		h.Xor(h, new(big.Int).Rsh(h, 32))
	}
	return h.Uint64()
}
