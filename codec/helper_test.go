package codec_test

import (
	"bytes"
	"encoding/binary"
	"math"
	"math/rand/v2"
	"slices"
	"testing"

	"seamark/api"
	"seamark/codec"
	"seamark/internal/expect"
)

const (
	longest = 65535 // bytes in a frame
	around  = 6     // bytes of a frame around those in it
)

// chance returns numbers that are the same in each run.
func chance() *rand.Rand { return rand.New(rand.NewPCG(8, 5)) }

// integers returns those at and next to all powers of two, of either sign, and others of any size.
func integers() []int {
	r := chance()
	var out []int
	for k := range 64 {
		for _, n := range []int{-2, -1, 0, 1, 2} {
			out = append(out, 1<<k+n, -1<<k+n)
		}
		out = append(out, int(r.Uint64()>>k), -int(r.Uint64()>>k))
	}
	return out
}

// lists returns lists of integers: the empty ones, those of one integer, and those of up to 5000.
func lists() [][]int {
	r := chance()
	all := integers()
	out := [][]int{nil, {}, all, make([]int, 5), make([]int, 300), slices.Repeat([]int{-1}, 64), slices.Repeat([]int{math.MinInt}, 64)}
	for i, x := range all {
		out = append(out, []int{x}, []int{x, all[r.IntN(len(all))]}, all[i:min(i+7, len(all))])
	}
	for _, n := range []int{3, 10, 63, 64, 127, 128, 129, 255, 256, 257, 5000} {
		list := make([]int, n)
		for i := range list {
			list[i] = all[r.IntN(len(all))]
		}
		out = append(out, list)
	}
	return out
}

// sizes are those of few bytes, those at which the length of a frame takes another byte, and the greatest ones.
func sizes() []int {
	out := []int{31, 32, 33, 63, 64, 65, 127, 128, 129, 254, 255, 256, 257, 511, 512, 513, 1000, 4096, 32767, 32768, longest - 1, longest}
	for n := range 20 {
		out = append(out, n)
	}
	return out
}

// fill returns n bytes: zeros, the greatest ones, rising ones, and any.
func fill(r *rand.Rand, n int) [][]byte {
	rising, other := make([]byte, n), make([]byte, n)
	for i := range n {
		rising[i], other[i] = byte(i), byte(r.IntN(256))
	}
	return [][]byte{make([]byte, n), bytes.Repeat([]byte{255}, n), rising, other}
}

// blobs returns bytes of all sizes that a frame can have.
func blobs() [][]byte {
	r := chance()
	out := [][]byte{nil, []byte("123456789"), []byte("buoy adrift")}
	for _, n := range sizes() {
		out = append(out, fill(r, n)...)
	}
	return out
}

// tooMany returns bytes that are more than a frame can have.
func tooMany() [][]byte {
	var out [][]byte
	for _, n := range []int{longest + 1, longest + 2, 2 * longest, 2*longest + 1, 2*longest + 2, 1 << 20, 1<<20 + 5} {
		out = append(out, fill(chance(), n)...)
	}
	return out
}

// edges are the bytes at which it changes what a byte is in a number.
var edges = []byte{0, 1, 2, 63, 64, 126, 127, 128, 129, 254, 255}

// digits returns bytes that may be those of numbers: all of up to two bytes, all of up to five whose bytes are edges, and long ones.
func digits() [][]byte {
	out := [][]byte{nil, {}}
	for a := range 256 {
		out = append(out, []byte{byte(a)})
		for b := range 256 {
			out = append(out, []byte{byte(a), byte(b)})
		}
	}
	from := [][]byte{{}}
	for range 5 {
		var next [][]byte
		for _, b := range from {
			for _, x := range edges {
				next = append(next, append(bytes.Clone(b), x))
			}
		}
		out, from = append(out, next...), next
	}
	return append(out, longDigits()...)
}

// longDigits returns bytes of which the first three to eleven belong together, with the edges behind them.
func longDigits() [][]byte {
	var out [][]byte
	for _, x := range []byte{128, 129, 200, 255} {
		for n := 3; n <= 11; n++ {
			front := bytes.Repeat([]byte{x}, n)
			out = append(out, front)
			for _, a := range edges {
				for _, b := range edges {
					out = append(out, append(bytes.Clone(front), a), append(bytes.Clone(front), a, b), append(bytes.Clone(front), a, b, 128))
				}
			}
		}
	}
	return out
}

// head returns the first elements of a list, to tell it from others.
func head[T any](list []T) []T { return list[:min(len(list), 12)] }

// framed returns b in a frame, and fails the test if there is an error.
func framed(t *testing.T, b []byte) []byte {
	t.Helper()
	return expect.OK[[]byte](t)(codec.Frame(b))
}

// opened is what Open returns.
type opened struct {
	text   string
	length int
	errno  api.Errno
}

// open returns what Open returns of b, as one value.
func open(b []byte) opened {
	got, n, e := codec.Open(b)
	return opened{string(got), n, e}
}

// refused is what Open returns with an error.
func refused(e api.Errno) opened { return opened{errno: e} }

// withSum returns b with a checksum behind it.
func withSum(b []byte, sum uint32) []byte {
	return binary.LittleEndian.AppendUint32(bytes.Clone(b), sum)
}

// changed returns b with as many neighbouring bytes changed, from one on, as there are numbers, by these.
func changed(b []byte, from int, by ...byte) []byte {
	out := bytes.Clone(b)
	for i, x := range by {
		out[from+i] ^= x
	}
	return out
}
