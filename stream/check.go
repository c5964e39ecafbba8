package stream

// check is the check of some bytes; 0 is that of none.
type check uint32

// turns tells what four bits that are shifted out of a check turn in the rest of it: the polynomial EDB88320, one bit
// behind the other.
var turns = [16]check{
	0x00000000, 0x1db71064, 0x3b6e20c8, 0x26d930ac, 0x76dc4190, 0x6b6b51f4, 0x4db26158, 0x5005713c,
	0xedb88320, 0xf00f9344, 0xd6d6a3e8, 0xcb61b38c, 0x9b64c2b0, 0x86d3d2d4, 0xa00ae278, 0xbdbdf21c,
}

// over gives the check of the bytes so far and these behind them.
func (c check) over(bytes string) check {
	c = ^c // takes the turn at the end back: of no bytes all bits are set
	for i := range len(bytes) {
		c ^= check(bytes[i])
		c = c>>4 ^ turns[c&15]
		c = c>>4 ^ turns[c&15]
	}
	return ^c
}

// bytes tells the check as it stands in a text.
func (c check) bytes() string {
	return string([]byte{byte(c >> 24), byte(c >> 16), byte(c >> 8), byte(c)})
}

// checkOf tells the check of bytes as it stands in a text.
func checkOf(bytes string) string {
	return check(0).over(bytes).bytes()
}

const checkSize = 4 // bytes
