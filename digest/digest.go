// Package digest: the hash of latch, SHA-512 (FIPS 180-4).
package digest

// Size is the number of bytes of a hash.
const Size = 64

const (
	blockSize = 128
	// The last block ends with the size of the whole text, in 16 bytes.
	sizeAt = blockSize - 16
	endTag = 0x80
)

// Hasher hashes what is written to it. It holds arrays alone, so that a copy
// of one goes its own way.
type Hasher struct {
	state [8]uint64
	block [blockSize]byte
	// The number of bytes written, in two words: SHA-512 tells a text's size
	// in 128 bits, and pieces may add up to more than one word holds.
	high, low uint64
}

// New answers a hasher of the empty text.
func New() Hasher {
	return Hasher{state: [8]uint64{
		0x6a09e667f3bcc908, 0xbb67ae8584caa73b, 0x3c6ef372fe94f82b, 0xa54ff53a5f1d36f1,
		0x510e527fade682d1, 0x9b05688c2b3e6c1f, 0x1f83d9abfb41bd6b, 0x5be0cd19137e2179,
	}}
}

// Of tells a text's hash.
func Of(s string) [Size]byte {
	h := New()
	h.Write(s)
	return h.Sum()
}

// Write puts a text behind what the hasher has. The bytes are copied, so that
// nothing of the text is held on to.
func (h *Hasher) Write(s string) {
	for len(s) > 0 {
		n := copy(h.block[h.filled():], s)
		h.count(uint64(n))
		s = s[n:]
		if h.filled() == 0 {
			h.mixBlock()
		}
	}
}

// Sum tells the hash of what the hasher has. The end is put behind a copy, so
// that one may go on writing.
func (h *Hasher) Sum() [Size]byte {
	last := *h
	last.putEnd()
	var sum [Size]byte
	for i, word := range last.state {
		putWord(sum[8*i:], word)
	}
	return sum
}

// filled tells how many bytes wait in the block for more.
func (h *Hasher) filled() int { return int(h.low % blockSize) }

func (h *Hasher) count(n uint64) {
	h.low += n
	if h.low < n {
		h.high++
	}
}

func (h *Hasher) putEnd() {
	at := h.filled()
	h.block[at] = endTag
	clear(h.block[at+1:])
	if at >= sizeAt {
		h.mixBlock()
		clear(h.block[:])
	}
	// The size is told in bits.
	putWord(h.block[sizeAt:], h.high<<3|h.low>>61)
	putWord(h.block[sizeAt+8:], h.low<<3)
	h.mixBlock()
}

// putWord writes a word with its highest byte first, as SHA-512 has it.
func putWord(to []byte, word uint64) {
	for i := range 8 {
		to[i] = byte(word >> (56 - 8*i))
	}
}

func getWord(from []byte) uint64 {
	var word uint64
	for i := range 8 {
		word = word<<8 | uint64(from[i])
	}
	return word
}
