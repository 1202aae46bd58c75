package sha_test

import (
	"math/big"
	"math/rand/v2"
	"slices"
)

// The chapter's words, written down a second time and in another way, to hold the package against: whole lists, slow sums, nothing under way.

const wordRange = int64(1) << 32 // sums of words are taken modulo it

// primes: the first n of them, by the sieve.
func primes(n int) []int64 {
	var out []int64
	struck := make([]bool, 1000)
	for p := 2; len(out) < n; p++ {
		if struck[p] {
			continue
		}
		out = append(out, int64(p))
		for m := p; m < len(struck); m += p {
			struck[m] = true
		}
	}
	return out
}

// places: the first 32 binary places behind the point of the root of p of that order: the greatest whole x whose power is at most p times 2^32 raised likewise.
func places(p, order int64) int64 {
	power := func(x *big.Int) *big.Int { return new(big.Int).Exp(x, big.NewInt(order), nil) }
	most := new(big.Int).Mul(big.NewInt(p), power(big.NewInt(wordRange)))
	low, high := big.NewInt(0), new(big.Int).Lsh(big.NewInt(p), 32) // low's power is at most that, high's is above
	for {
		middle := new(big.Int).Add(low, high)
		middle.Rsh(middle, 1)
		if middle.Cmp(low) == 0 {
			return new(big.Int).Mod(low, big.NewInt(wordRange)).Int64()
		}
		if power(middle).Cmp(most) > 0 {
			high = middle
		} else {
			low = middle
		}
	}
}

// rootWords: the words of the first n primes.
func rootWords(n int, order int64) []int64 {
	var out []int64
	for _, p := range primes(n) {
		out = append(out, places(p, order))
	}
	return out
}

// right: a word turned to the right, by its binary places one for one.
func right(x int64, n int) int64 {
	for range n {
		x = x/2 + x%2*(wordRange/2)
	}
	return x
}

func down(x int64, n int) int64 { return x / (int64(1) << n) }

// oracle: the words of the chapter, reckoned once for a test.
type oracle struct{ starts, rounds []int64 }

func newOracle() oracle { return oracle{rootWords(8, 2), rootWords(64, 3)} }

// filled: a list with what the chapter puts behind it.
func filled(p []byte) []byte {
	out := append(slices.Clone(p), 0x80)
	for len(out)%64 != 56 {
		out = append(out, 0)
	}
	n := new(big.Int).Mul(big.NewInt(int64(len(p))), big.NewInt(8))
	return append(out, n.FillBytes(make([]byte, 8))...)
}

// schedule: the words W0 to W63.
func schedule(block []byte) []int64 {
	var w []int64
	for t := range 64 {
		if t < 16 {
			w = append(w, new(big.Int).SetBytes(block[4*t:4*t+4]).Int64())
			continue
		}
		x, y := w[t-15], w[t-2]
		s0 := right(x, 7) ^ right(x, 18) ^ down(x, 3)
		s1 := right(y, 17) ^ right(y, 19) ^ down(y, 10)
		w = append(w, (s1+w[t-7]+s0+w[t-16])%wordRange)
	}
	return w
}

// sum: the digest of a list.
func (o oracle) sum(p []byte) [32]byte {
	state := slices.Clone(o.starts)
	for block := range slices.Chunk(filled(p), 64) {
		v, w := slices.Clone(state), schedule(block)
		for t := range 64 {
			a, b, c, e, f, g := v[0], v[1], v[2], v[4], v[5], v[6]
			t1 := v[7] + (right(e, 6) ^ right(e, 11) ^ right(e, 25)) + ((e & f) ^ ((wordRange - 1 - e) & g)) + o.rounds[t] + w[t]
			t2 := (right(a, 2) ^ right(a, 13) ^ right(a, 22)) + ((a & b) ^ (a & c) ^ (b & c))
			v = append([]int64{(t1 + t2) % wordRange}, v[:7]...)
			v[4] = (v[4] + t1) % wordRange
		}
		for i := range state {
			state[i] = (state[i] + v[i]) % wordRange
		}
	}
	var out []byte
	for _, x := range state {
		out = append(out, big.NewInt(x).FillBytes(make([]byte, 4))...)
	}
	return [32]byte(out)
}

// hmac: the keyed digest of a message.
func (o oracle) hmac(key, message []byte) [32]byte {
	if len(key) > 64 {
		d := o.sum(key)
		key = d[:]
	}
	var in, out []byte
	for i := range 64 {
		k := byte(0)
		if i < len(key) {
			k = key[i]
		}
		in, out = append(in, k^0x36), append(out, k^0x5C)
	}
	d := o.sum(append(in, message...))
	return o.sum(append(out, d[:]...))
}

func someRand() *rand.Rand { return rand.New(rand.NewPCG(4, 256)) }

// someBytes: n bytes without a rule.
func someBytes(r *rand.Rand, n int) []byte {
	out := make([]byte, n)
	for i := range out {
		out[i] = byte(r.Uint32())
	}
	return out
}

// lengths: those that the chapter's filling turns at, and others.
func lengths() []int {
	return []int{0, 1, 2, 3, 4, 5, 31, 32, 33, 54, 55, 56, 57, 62, 63, 64, 65, 66, 111, 112, 118, 119, 120, 121, 127, 128, 129, 183, 184, 191, 192, 193, 255, 256, 257, 1000, 4095, 4096, 4097}
}
