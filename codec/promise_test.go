package codec_test

import (
	"bytes"
	"math"
	"slices"
	"testing"

	"seamark/api"
	"seamark/codec"
	"seamark/internal/expect"
	"seamark/internal/sample"
)

// P8.2: what was put is what Get returns.
func TestPutBack(t *testing.T) {
	for _, list := range lists() {
		getIs(t, codec.Put(list), list, api.OK)
	}
	r := chance()
	for range 200 {
		list := make([]int, r.IntN(100))
		for i := range list {
			list[i] = int(r.Uint64() >> r.IntN(64))
			if r.IntN(2) == 0 {
				list[i] = -list[i]
			}
		}
		getIs(t, codec.Put(list), list, api.OK)
	}
}

// P8.2: what Get returns is put as the same bytes.
func TestGetBack(t *testing.T) {
	back := 0
	for _, b := range digits() {
		list, e := codec.Get(b)
		if e != api.OK {
			continue
		}
		back++
		if again := codec.Put(list); !bytes.Equal(again, b) {
			t.Errorf("Get of %v is %v, whose Put is %v", b, list, again)
		}
	}
	if back < 50000 {
		t.Errorf("only %d bytes are those of integers", back)
	}
}

// P8.3: the bytes of two lists, one behind the other, are those of the list of all, and lead back to it.
func TestOneAfterTheOther(t *testing.T) {
	some := sample.Every(lists(), 11)
	for _, a := range some {
		for _, b := range some {
			all, both := slices.Concat(a, b), slices.Concat(codec.Put(a), codec.Put(b))
			if got := codec.Put(all); !bytes.Equal(got, both) {
				t.Errorf("Put of %d and %d integers together: %v, and not %v", len(a), len(b), head(got), head(both))
			}
			if got := expect.OK[[]int](t)(codec.Get(both)); !slices.Equal(got, all) {
				t.Errorf("Get of the bytes of %d and %d integers: %v, and not %v", len(a), len(b), head(got), head(all))
			}
		}
	}
}

// length returns how many bytes an integer takes.
func length(x int) int { return len(codec.Put([]int{x})) }

// P8.4: an integer from -64 to 63 takes one byte.
func TestShortNumbers(t *testing.T) {
	for x := -64; x <= 63; x++ {
		if n := length(x); n != 1 {
			t.Errorf("%d takes %d bytes", x, n)
		}
	}
	// The next ones take as few bytes as there are: one byte has no other integers.
	for _, x := range []int{-66, -65, 64, 65} {
		if n := length(x); n != 2 {
			t.Errorf("%d takes %d bytes", x, n)
		}
	}
}

// P8.4: an integer that is nearer to 0, on the same side, takes no more bytes.
func TestNearerNumbers(t *testing.T) {
	list := integers()
	for x := -20000; x <= 20000; x++ {
		list = append(list, x)
	}
	slices.Sort(list)
	lengths := map[int]bool{}
	for i, x := range list {
		n := length(x)
		lengths[n] = true
		if i == 0 {
			continue
		}
		before := list[i-1]
		if x < 0 && length(before) < n || before >= 0 && length(before) > n {
			t.Errorf("%d takes %d bytes, %d takes %d", before, length(before), x, n)
		}
	}
	if len(lengths) != 10 || !lengths[1] || !lengths[10] || length(math.MaxInt) != 10 || length(math.MinInt) != 10 {
		t.Errorf("integers take %v bytes", lengths)
	}
}

// P8.5: frames that follow one another are opened one after the other, whatever is behind them.
func TestFramesInARow(t *testing.T) {
	r := chance()
	list := blobs()
	for _, behind := range append(fill(r, 3), nil, []byte{0}, []byte{255, 255}, []byte{0, 0, 255, 18, 217}, fill(r, 70000)[3]) {
		var row []byte
		var inside [][]byte
		for range 40 {
			b := list[r.IntN(len(list))]
			inside, row = append(inside, b), append(row, framed(t, b)...)
		}
		row = append(row, behind...)
		for i, b := range inside {
			got := open(row)
			if got != (opened{string(b), len(b) + around, api.OK}) {
				t.Fatalf("the frame %d, of %d bytes, with %d behind all: %d, %v", i, len(b), len(behind), got.length, got.errno)
			}
			row = row[got.length:]
		}
		if !bytes.Equal(row, behind) {
			t.Errorf("%d bytes are left, and not %d", len(row), len(behind))
		}
	}
}

// P8.5: a frame that is cut is short, wherever it is cut.
func TestCutFrames(t *testing.T) {
	for _, b := range blobs() {
		f := framed(t, b)
		for n := range f {
			if got := open(f[:n]); got != refused(api.ErrShort) {
				t.Fatalf("Open of %d bytes of a frame with %d: %v, %v", n, len(f), got.length, got.errno)
			}
		}
	}
}

// P8.6: any change of up to four neighbouring bytes behind the first two is found, in small frames at each place.
func TestDamage(t *testing.T) {
	r := chance()
	count := 0
	for n := range 12 {
		for _, b := range fill(r, n) {
			f := framed(t, b)
			for from := 2; from < len(f); from++ {
				for x := 1; x < 256; x++ {
					isFound(t, f, from, byte(x))
				}
				for wide := 2; wide <= min(4, len(f)-from); wide++ {
					for range 60 {
						by := fill(r, wide)[3]
						by[0] |= 1
						isFound(t, f, from, by...)
						isFound(t, append(f, 1, 2, 3), from, by...)
						count++
					}
				}
			}
		}
	}
	if count < 5000 {
		t.Errorf("only %d changes of several bytes", count)
	}
}

// isFound fails the test unless a change of a frame is found.
func isFound(t *testing.T, frame []byte, from int, by ...byte) {
	t.Helper()
	if got := open(changed(frame, from, by...)); got != refused(api.ErrSum) {
		t.Errorf("a frame of %d bytes changed from %d on, by %v: %d, %v", len(frame), from, by, got.length, got.errno)
	}
}

// P8.6: it is found in large frames, too, at both ends of what can be changed and anywhere between them.
func TestDamageOfLargeFrames(t *testing.T) {
	r := chance()
	for _, n := range []int{64, 255, 256, 1000, 4096, longest} {
		for _, b := range fill(r, n) {
			f := framed(t, b)
			for wide := 1; wide <= 4; wide++ {
				places := []int{2, 3, len(f) / 2, n - 1, n, n + 1, n + 2, len(f) - wide}
				for range 10 {
					places = append(places, 2+r.IntN(len(f)-wide-1))
				}
				for _, from := range places {
					isFound(t, f, from, bytes.Repeat([]byte{255}, wide)...)
					isFound(t, f, from, append(make([]byte, wide-1), 1)...)
				}
			}
		}
	}
}

// P8.7: lists of the same length that differ in exactly one integer have different digests.
func TestDigests(t *testing.T) {
	r := chance()
	all := integers()
	for _, list := range sample.Every(lists(), 3) {
		digest := codec.Digest(list)
		for i := range list {
			if len(list) > 200 && r.IntN(len(list)) > 50 {
				continue
			}
			for _, x := range []int{list[i] + 1, list[i] - 1, ^list[i], list[i] ^ 1<<r.IntN(64), list[i] ^ math.MinInt, list[i] ^ 1<<32, all[r.IntN(len(all))]} {
				if x == list[i] {
					continue
				}
				other := slices.Clone(list)
				other[i] = x
				if codec.Digest(other) == digest {
					t.Errorf("%d integers, from %v on, have the same digest with %d at %d", len(list), head(list), x, i)
				}
			}
		}
	}
}

// P8.7: no two of many integers have the same digest.
func TestDigestsOfOne(t *testing.T) {
	seen := map[uint64]int{}
	for _, x := range integers() {
		d := codec.Digest([]int{x})
		if y, known := seen[d]; known && y != x {
			t.Errorf("%d and %d have the same digest", x, y)
		}
		seen[d] = x
	}
}

// P8.7: Join changes if one of both digests does.
func TestJoins(t *testing.T) {
	r := chance()
	for _, a := range words() {
		for _, b := range sample.Every(words(), 41) {
			joined := codec.Join(a, b)
			for _, by := range []uint64{1, 1 << 63, 1 << r.IntN(64), 1 + r.Uint64()>>1, math.MaxUint64} {
				if codec.Join(a^by, b) == joined || codec.Join(a, b^by) == joined {
					t.Errorf("Join of %#x and %#x stays if one of them changes by %#x", a, b, by)
				}
			}
		}
	}
}

// P8.8: the checksum of bytes followed by their checksum is always the same; so is that of a frame.
func TestChecksums(t *testing.T) {
	const always = 0x2144DF1C
	for _, b := range append(blobs(), tooMany()...) {
		if got := codec.Sum(withSum(b, codec.Sum(b))); got != always {
			t.Errorf("Sum of %d bytes and their checksum: %#x", len(b), got)
		}
	}
	for _, b := range blobs() {
		if got := codec.Sum(framed(t, b)); got != always {
			t.Errorf("Sum of the frame of %d bytes: %#x", len(b), got)
		}
	}
}
