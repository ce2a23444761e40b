package codec_test

import (
	"bytes"
	"hash/crc32"
	"math"
	"slices"
	"testing"

	"seamark/api"
	"seamark/codec"
	"seamark/internal/expect"
)

// getIs fails the test unless Get of b returns these integers and this error.
func getIs(t *testing.T, b []byte, list []int, want api.Errno) {
	t.Helper()
	if got, e := codec.Get(b); !slices.Equal(got, list) || e != want {
		t.Errorf("Get of %d bytes, from %v on: %v, %v, and not %v, %v", len(b), head(b), head(got), e, head(list), want)
	}
}

// P8.1: the examples of the chapter.
func TestExamples(t *testing.T) {
	if got := codec.Put([]int{0, -1, 1, 63, 64, -65}); !bytes.Equal(got, []byte{0, 1, 2, 126, 128, 1, 129, 1}) {
		t.Errorf("Put: %v", got)
	}
	getIs(t, []byte{128, 0}, nil, api.ErrForm)
	getIs(t, []byte{128}, nil, api.ErrShort)
	if got := codec.Sum([]byte("123456789")); got != 0xCBF43926 {
		t.Errorf("Sum of nine bytes: %#x", got)
	}
	if got := framed(t, nil); !bytes.Equal(got, []byte{0, 0, 255, 18, 217, 65}) {
		t.Errorf("Frame of no bytes: %v", got)
	}
	if got := codec.Sum([]byte{0, 0}); got != 0x41D912FF {
		t.Errorf("Sum of two zeros: %#x", got)
	}
	if got := open([]byte{0, 0, 255, 18, 217, 65, 7}); got != (opened{"", 6, api.OK}) {
		t.Errorf("Open: %d, %v", got.length, got.errno)
	}
}

// P8.1, H1: integers are put by the digits of their natural numbers.
func TestPut(t *testing.T) {
	for _, list := range lists() {
		if got, want := codec.Put(list), bytesOf(list); !bytes.Equal(got, want) {
			t.Errorf("Put of %d integers, from %v on: %v, and not %v", len(list), head(list), head(got), head(want))
		}
	}
	for _, x := range []struct {
		n    int
		want []byte
	}{
		{0, []byte{0}}, {-64, []byte{127}}, {8191, []byte{254, 127}}, {-8192, []byte{255, 127}}, {8192, []byte{128, 128, 1}}, {-8193, []byte{129, 128, 1}},
		{1<<62 - 1, []byte{254, 255, 255, 255, 255, 255, 255, 255, 127}}, {1 << 62, []byte{128, 128, 128, 128, 128, 128, 128, 128, 128, 1}},
		{-1 << 62, []byte{255, 255, 255, 255, 255, 255, 255, 255, 127}}, {-1<<62 - 1, []byte{129, 128, 128, 128, 128, 128, 128, 128, 128, 1}},
		{math.MaxInt, []byte{254, 255, 255, 255, 255, 255, 255, 255, 255, 1}}, {math.MinInt, []byte{255, 255, 255, 255, 255, 255, 255, 255, 255, 1}},
	} {
		if got := codec.Put([]int{x.n}); !bytes.Equal(got, x.want) {
			t.Errorf("Put of %d: %v", x.n, got)
		}
		getIs(t, x.want, []int{x.n}, api.OK)
	}
}

// P8.1, H2: the integers, or the error, are those of the oracle.
func TestGet(t *testing.T) {
	counts := map[api.Errno]int{}
	for _, b := range digits() {
		list, e := integersOf(b)
		getIs(t, b, list, e)
		counts[e]++
	}
	for _, e := range []api.Errno{api.OK, api.ErrForm, api.ErrShort} {
		if counts[e] < 5000 {
			t.Errorf("bytes lead to %v only %d times", e, counts[e])
		}
	}
}

// badNumbers are bytes in which the first number has an error, whatever is behind them.
func badNumbers() [][]byte {
	nine := bytes.Repeat([]byte{128}, 9)
	var out [][]byte
	for n := 1; n <= 9; n++ {
		out = append(out, append(bytes.Repeat([]byte{200}, n), 0))
	}
	for _, tenth := range []byte{0, 2, 3, 64, 127, 128, 129, 130, 255} {
		out = append(out, append(bytes.Clone(nine), tenth))
	}
	return out
}

// P8.1, H2: a number with too many bits, or with a last byte 0, is not of the form, at any place; one that is cut is short.
func TestGetErrors(t *testing.T) {
	for _, bad := range badNumbers() {
		for _, front := range [][]byte{nil, {0}, {5, 128, 1}, bytes.Repeat([]byte{7}, 12), codec.Put(integers())} {
			getIs(t, slices.Concat(front, bad), nil, api.ErrForm)
			for _, back := range [][]byte{{0}, {1}, {128}, {255, 255}, {128, 0}} {
				getIs(t, slices.Concat(front, bad, back), nil, api.ErrForm)
			}
			// What comes before the last byte is a number that is cut.
			for n := 1; n < min(len(bad), 10); n++ {
				getIs(t, slices.Concat(front, bad[:n]), nil, api.ErrShort)
			}
		}
	}
	// A number that has all bits, and each one that is next to it.
	for _, tenth := range []byte{0, 1, 2} {
		b := append(bytes.Repeat([]byte{255}, 9), tenth)
		if tenth == 1 {
			getIs(t, b, []int{math.MinInt}, api.OK)
		} else {
			getIs(t, b, nil, api.ErrForm)
		}
	}
	// A zero is a number if it is alone.
	getIs(t, []byte{0, 0, 1, 0}, []int{0, 0, -1, 0}, api.OK)
	getIs(t, []byte{0, 128, 1, 0, 129, 0}, nil, api.ErrForm)
}

// P8.1, H3: bytes are framed as the oracle does it, up to the greatest number of them, and refused beyond it.
func TestFrame(t *testing.T) {
	for _, b := range blobs() {
		want, _ := frameOf(b)
		if got := framed(t, b); !bytes.Equal(got, want) {
			t.Errorf("Frame of %d bytes differs", len(b))
		}
	}
	for _, b := range tooMany() {
		if got, e := codec.Frame(b); len(got) > 0 || e != api.ErrLimit {
			t.Errorf("Frame of %d bytes: %d bytes, %v", len(b), len(got), e)
		}
	}
	for n, want := range map[int][]byte{1: {0, 1}, 255: {0, 255}, 256: {1, 0}, 258: {1, 2}, 32768: {128, 0}, longest: {255, 255}} {
		if got := framed(t, make([]byte, n)); len(got) != n+around || !bytes.Equal(got[:2], want) {
			t.Errorf("the frame of %d bytes has %d, from %v on", n, len(got), got[:2])
		}
	}
}

// P8.1, H4: what is opened is as the oracle says, for frames, for what is nearly one, and for any bytes.
func TestOpen(t *testing.T) {
	r := chance()
	counts := map[api.Errno]int{}
	check := func(b []byte) {
		want := openedOf(b)
		if got := open(b); got != want {
			t.Errorf("Open of %d bytes, from %v on: %d, %v, and not %d, %v", len(b), head(b), got.length, got.errno, want.length, want.errno)
		}
		counts[want.errno]++
	}
	for _, b := range blobs() {
		f := framed(t, b)
		check(f)
		check(append(f, 0))
		check(append(f, 1, 2, 3))
		for range 20 {
			check(changed(f, r.IntN(len(f)), byte(r.IntN(256))))
			check(f[:r.IntN(len(f))])
		}
	}
	for range 20000 {
		b := fill(r, r.IntN(14))[3]
		if len(b) > 1 && r.IntN(4) > 0 {
			b[0], b[1] = 0, byte(r.IntN(6))
		}
		check(b)
		if n := len(b) - 4; n >= 2 && r.IntN(2) == 0 {
			check(withSum(b[:n], sumOf(b[:n])))
		}
	}
	for _, e := range []api.Errno{api.OK, api.ErrShort, api.ErrSum} {
		if counts[e] < 1000 {
			t.Errorf("bytes lead to %v only %d times", e, counts[e])
		}
	}
}

// P8.1, H4: the checksum counts all bytes before it, the least significant byte first, and a frame that is cut is short, whatever its checksum is.
func TestOpenErrors(t *testing.T) {
	for _, b := range [][]byte{nil, {}, {0}, {255}, {0, 0}, {0, 1}, {1, 0}, {0, 0, 0, 0, 0}, {0, 0, 255, 18, 217}, {255, 255, 0, 0, 0, 0}, {0, 1, 255, 18, 217, 65}} {
		if got := open(b); got != refused(api.ErrShort) {
			t.Errorf("Open of %v: %d, %v", b, got.length, got.errno)
		}
	}
	text := []byte("buoy")
	front := slices.Concat([]byte{0, 4}, text)
	sum := sumOf(front)
	good := withSum(front, sum)
	if got := open(good); got != (opened{"buoy", 10, api.OK}) {
		t.Errorf("Open of %v: %d, %v", good, got.length, got.errno)
	}
	for i, b := range [][]byte{
		withSum(front, sum+1), withSum(front, ^sum), withSum(front, 0), withSum(front, sumOf(text)), withSum(front, sumOf(good)), withSum(front, sum^1<<31),
		slices.Concat(front, []byte{byte(sum >> 24), byte(sum >> 16), byte(sum >> 8), byte(sum)}),
		slices.Concat([]byte{4, 0}, text, good[6:], make([]byte, 1024)), slices.Concat([]byte{0, 3}, good[2:]), slices.Concat([]byte{0, 2}, good[2:]), make([]byte, 6), bytes.Repeat([]byte{255}, longest+around),
	} {
		if got := open(b); got != refused(api.ErrSum) {
			t.Errorf("Open of the wrong frame %d: %d, %v", i, got.length, got.errno)
		}
		if got := open(b[:around-1]); got != refused(api.ErrShort) {
			t.Errorf("Open of the wrong frame %d, cut: %d, %v", i, got.length, got.errno)
		}
	}
}

// P8.1, H5: the checksum is the one that the oracle computes bit by bit, the usual one of 32 bits.
func TestSum(t *testing.T) {
	for _, b := range append(blobs(), tooMany()...) {
		if got := codec.Sum(b); got != sumOf(b) || got != crc32.ChecksumIEEE(b) {
			t.Errorf("Sum of %d bytes: %#x, and not %#x", len(b), got, sumOf(b))
		}
	}
	for x := range 256 {
		for _, b := range [][]byte{{byte(x)}, {byte(x), 0}, {7, byte(x)}, {byte(x), 255, byte(x)}} {
			if got := codec.Sum(b); got != sumOf(b) {
				t.Errorf("Sum of %v: %#x, and not %#x", b, got, sumOf(b))
			}
		}
	}
	rising := fill(chance(), 256)[2]
	for text, want := range map[string]uint32{"": 0, "a": 0xE8B7BE43, "buoy adrift": 0xC1C2C155, string(rising): 0x29058C73} {
		if got := codec.Sum([]byte(text)); got != want {
			t.Errorf("Sum of %q: %#x", text, got)
		}
	}
}

// P8.1, H6: digests are those of the oracle, which computes with numbers of any size.
func TestDigest(t *testing.T) {
	for _, list := range lists() {
		if got, want := codec.Digest(list), digestOf(list); got != want {
			t.Errorf("Digest of %d integers, from %v on: %#x, and not %#x", len(list), head(list), got, want)
		}
	}
	for i, x := range []struct {
		list []int
		want uint64
	}{
		{nil, 0x9E3779B97F4A7C15}, {[]int{0}, 0x835CD9230BB7C00D}, {[]int{7}, 0x64E24B298B0CF65C}, {[]int{-1}, 0xDCF10A77848D0DDA},
		{[]int{1, 2}, 0x79ADD0CCF56E03E7}, {[]int{2, 1}, 0x59B95AE0E7ED58AE}, {[]int{math.MinInt, math.MaxInt, 0}, 0x364843921937EB69},
	} {
		if got := codec.Digest(x.list); got != x.want {
			t.Errorf("digest %d: %#x", i, got)
		}
	}
}

// words returns numbers of 64 bits without sign.
func words() []uint64 {
	var out []uint64
	for _, x := range integers() {
		out = append(out, uint64(x))
	}
	return out
}

// P8.1, H7: two digests are joined as the integers 2, a and b, in this order.
func TestJoin(t *testing.T) {
	all := words()
	for i, a := range all {
		for _, b := range []uint64{a, 0, all[(i*7+3)%len(all)], math.MaxUint64} {
			if got, want := codec.Join(a, b), digestOf([]int{2, int(a), int(b)}); got != want {
				t.Errorf("Join of %#x and %#x: %#x, and not %#x", a, b, got, want)
			}
		}
	}
	if codec.Join(1, 2) == codec.Join(2, 1) {
		t.Error("Join does not depend on the order")
	}
}

// P8.1: no function changes its arguments, nor what lies behind them in the same memory.
func TestArgumentsStay(t *testing.T) {
	for _, list := range lists() {
		room := append(slices.Clone(list), 1, 2, 3)
		before := slices.Clone(room)
		codec.Put(room[:len(list)])
		codec.Digest(room[:len(list)])
		if !slices.Equal(room, before) {
			t.Errorf("%d integers, from %v on, were changed", len(list), head(before))
		}
	}
	for _, b := range append(blobs(), codec.Put(integers()), []byte{128, 0}, framed(t, []byte("buoy"))) {
		room := append(bytes.Clone(b), make([]byte, 20)...)
		before := bytes.Clone(room)
		codec.Get(room[:len(b)])
		codec.Frame(room[:len(b)])
		codec.Open(room[:len(b)])
		codec.Sum(room[:len(b)])
		if !bytes.Equal(room, before) {
			t.Errorf("%d bytes were changed", len(b))
		}
	}
}

// P8.1: whoever changes what was returned, or what was given, does not change the other one.
func TestResultsAreNew(t *testing.T) {
	for _, b := range blobs() {
		given := bytes.Clone(b)
		frame := framed(t, given)
		inside, _, e := codec.Open(frame)
		if e != api.OK || !bytes.Equal(inside, b) {
			t.Fatalf("Open of the frame of %d bytes: %v", len(b), e)
		}
		before := bytes.Clone(frame)
		for i := range given {
			given[i]++
			inside[i] += 2
		}
		_ = append(inside, 99)
		if !bytes.Equal(frame, before) {
			t.Errorf("the frame of %d bytes shares memory", len(b))
		}
		for i := range frame {
			frame[i] += 3
		}
		for i, x := range b {
			if given[i] != x+1 || inside[i] != x+2 {
				t.Errorf("the byte %d of %d shares memory with the frame", i, len(b))
			}
		}
	}
	first := codec.Put([]int{5, 6})
	first[0] = 99
	if second := codec.Put([]int{5, 6}); !bytes.Equal(second, []byte{10, 12}) {
		t.Errorf("Put again: %v", second)
	}
	list := expect.OK[[]int](t)(codec.Get([]byte{10, 12}))
	list[0] = 99
	getIs(t, []byte{10, 12}, []int{5, 6}, api.OK)
}

// P8.1: the same call leads to the same result, whatever was called in between.
func TestAgain(t *testing.T) {
	for _, b := range blobs() {
		sum, frame := codec.Sum(b), framed(t, b)
		codec.Sum(append(bytes.Clone(b), 1))
		codec.Frame(make([]byte, longest+1))
		codec.Open(b)
		if codec.Sum(b) != sum || !bytes.Equal(framed(t, b), frame) {
			t.Errorf("%d bytes lead to another result", len(b))
		}
	}
}
