package codec

const (
	numberSize = 8 // bytes of a number
	lengthSize = 4 // bytes of a piece's length

	// lengthFrom is where a length begins in a word: it is a number's lowest bytes.
	lengthFrom = numberSize - lengthSize
)

// word is a number's bytes, the highest one first.
type word [numberSize]byte

// wordOf is the bytes of n. Of n below 0 the conversion adds 2^64.
func wordOf(n int) word {
	var w word
	bits := uint64(n)
	for i := range numberSize {
		w[numberSize-1-i] = byte(bits >> (8 * i))
	}
	return w
}

// number is the number of such bytes.
func (w word) number() int {
	var bits uint64
	for i := range numberSize {
		bits = bits<<8 | uint64(w[i])
	}
	return int(bits)
}
