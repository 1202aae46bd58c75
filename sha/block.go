package sha

import "math/bits"

// starts: the start words H0 to H7.
var starts = [stateWords]uint32{0x6A09E667, 0xBB67AE85, 0x3C6EF372, 0xA54FF53A, 0x510E527F, 0x9B05688C, 0x1F83D9AB, 0x5BE0CD19}

const roundCount = 64

// rounds: the round words K0 to K63, made once at start-up.
var rounds = roundWords()

// Start: the start word Hi.
func Start(i int) uint32 {
	if i < 0 || i >= stateWords {
		return 0
	}
	return starts[i]
}

// Round: the round word Ki.
func Round(i int) uint32 {
	if i < 0 || i >= roundCount {
		return 0
	}
	return rounds[i]
}

// roundWords: of each of the first primes, what its cube root has behind the point.
func roundWords() [roundCount]uint32 {
	var words [roundCount]uint32
	n := 0
	for p := uint64(2); n < roundCount; p++ {
		if isPrime(p) {
			words[n] = uint32(cubeRoot(p))
			n++
		}
	}
	return words
}

func isPrime(p uint64) bool {
	for d := uint64(2); d < p; d++ {
		if p%d == 0 {
			return false
		}
	}
	return true
}

// cubeRoot: the whole part of 2^32 times the cube root of a prime p below 512, found bit by bit from the highest down.
func cubeRoot(p uint64) uint64 {
	root := uint64(0)
	for bit := uint64(1) << 34; bit > 0; bit >>= 1 { // 512 has the root 8, and so the answer is below 2^35
		if cubeHigh(root|bit) < p<<32 { // is the cube below 2^96 times p? The same it is never: a prime is no cube
			root |= bit
		}
	}
	return root
}

// cubeHigh: how often 2^64 goes into the cube of x, for x below 2^35.
func cubeHigh(x uint64) uint64 {
	high, low := bits.Mul64(x, x)
	carry, _ := bits.Mul64(low, x)
	return high*x + carry
}

// workedIn: the state when a block is worked in.
func workedIn(state [stateWords]uint32, block [blockSize]byte) [stateWords]uint32 {
	w := wordsOf(block)
	a, b, c, d, e, f, g, h := state[0], state[1], state[2], state[3], state[4], state[5], state[6], state[7]
	for t := range roundCount {
		t1 := h + (turned(e, 6) ^ turned(e, 11) ^ turned(e, 25)) + (e&f ^ ^e&g) + rounds[t] + w[t]
		t2 := (turned(a, 2) ^ turned(a, 13) ^ turned(a, 22)) + (a&b ^ a&c ^ b&c)
		h, g, f, e, d, c, b, a = g, f, e, d+t1, c, b, a, t1+t2
	}
	for i, x := range [stateWords]uint32{a, b, c, d, e, f, g, h} {
		state[i] += x
	}
	return state
}

// wordsOf: the words W0 to W63 of a block.
func wordsOf(block [blockSize]byte) [roundCount]uint32 {
	var w [roundCount]uint32
	for t := range roundCount {
		if t < blockWords {
			w[t] = wordAt(block, wordSize*t)
		} else {
			w[t] = mixed1(w[t-2]) + w[t-7] + mixed0(w[t-15]) + w[t-16]
		}
	}
	return w
}

// wordAt: the word of the four bytes from i on.
func wordAt(block [blockSize]byte, i int) uint32 {
	return uint32(block[i])<<24 | uint32(block[i+1])<<16 | uint32(block[i+2])<<8 | uint32(block[i+3])
}

// mixed0: the chapter's s0.
func mixed0(x uint32) uint32 { return turned(x, 7) ^ turned(x, 18) ^ x>>3 }

// mixed1: the chapter's s1.
func mixed1(x uint32) uint32 { return turned(x, 17) ^ turned(x, 19) ^ x>>10 }

// turned: x turned to the right by n places.
func turned(x uint32, n int) uint32 { return bits.RotateLeft32(x, -n) }
