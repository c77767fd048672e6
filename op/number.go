package op

// A number in code is written in bytes of seven bits, the lowest ones first;
// all bytes but the last have the eighth bit. The lowest bit of all is the
// sign, so that small numbers are short on both sides of 0.
const (
	bitsOfByte = 7
	moreFollow = 1 << bitsOfByte
	maxBytes   = 10 // of 64 bits; of the last byte one bit
)

// Append writes a number behind what there is of a code.
func Append(code []byte, n int) []byte {
	rest := uint64(n) << 1
	if n < 0 {
		rest = ^rest
	}
	for ; rest >= moreFollow; rest >>= bitsOfByte {
		code = append(code, byte(rest)|moreFollow)
	}
	return append(code, byte(rest))
}

// Read reads the number that begins at a place of a code, and tells how many
// bytes it has; 0, if there is none.
func Read(code string, at int) (n, size int) {
	bits := uint64(0)
	for i := range min(len(code)-at, maxBytes) {
		next := code[at+i]
		if i == maxBytes-1 && next > 1 {
			return 0, 0
		}
		bits |= uint64(next%moreFollow) << (i * bitsOfByte)
		if next < moreFollow {
			return signed(bits), i + 1
		}
	}
	return 0, 0
}

func signed(bits uint64) int {
	n := int(bits >> 1)
	if bits&1 == 1 {
		return ^n
	}
	return n
}
