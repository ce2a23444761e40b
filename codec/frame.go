package codec

const (
	headLen   = 2         // bytes ahead of those in a frame
	tailLen   = 4         // bytes behind them
	maxFramed = 1<<16 - 1 // bytes in a frame
)

// fourSteps has what becomes of the numbers below 16 in four steps of the checksum. A table for eight steps would be 16 times as long.
var fourSteps [16]uint32

func init() {
	for i := range fourSteps {
		c := uint32(i)
		for range 4 {
			c = step(c)
		}
		fourSteps[i] = c
	}
}

// step returns what becomes of c in one step of the checksum.
func step(c uint32) uint32 {
	if c%2 == 1 {
		return c/2 ^ 0xEDB88320
	}
	return c / 2
}

// eightSteps returns what becomes of c in the eight steps that follow each byte.
func eightSteps(c uint32) uint32 {
	// The bits above the lowest four are only moved by four steps.
	for range 2 {
		c = c>>4 ^ fourSteps[c%16]
	}
	return c
}
