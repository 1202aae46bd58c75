package sha_test

import (
	"crypto/sha256"
	"math/rand/v2"
	"slices"
	"testing"

	"weir/sha"
)

// A kept is a Hash and, beside it, the bytes that it has taken in.
type kept struct {
	hash  sha.Hash
	bytes []byte
}

func checkHash(t *testing.T, k kept) {
	t.Helper()
	if got, want := k.hash.Sum(), sha256.Sum256(k.bytes); got != want {
		t.Errorf("the digest of %d bytes is %x, want %x", len(k.bytes), got, want)
	}
	if k.hash.Len() != len(k.bytes) {
		t.Errorf("Len() = %d, want %d", k.hash.Len(), len(k.bytes))
	}
}

// pieceSize: how many bytes a step writes: often none or few, at times up to an edge of a block.
func pieceSize(r *rand.Rand, have int) int {
	switch r.IntN(6) {
	case 0:
		return 0
	case 1:
		return 1 + r.IntN(4)
	case 2:
		return 64 - have%64
	case 3:
		return max(64-have%64+r.IntN(3)-1, 0)
	case 4:
		return 64 * r.IntN(4)
	}
	return r.IntN(200)
}

// P4.3: the examples, and the zero Hash.
func TestNewHash(t *testing.T) {
	var zero sha.Hash
	if sha.New() != zero || sha.New() != (sha.Hash{}) || sha.New() != sha.New() {
		t.Error("New isn't the zero Hash")
	}
	checkHash(t, kept{zero, nil})
	checkHash(t, kept{zero.Write(nil), nil})
	checkHash(t, kept{zero.Write([]byte("abc")), []byte("abc")})
	if zero.Write(nil) != zero || zero.Write([]byte{}) != zero || sha.New().Write(nil).Write(nil) != zero {
		t.Error("writing nothing makes another Hash")
	}
	if sha.New().Write([]byte{97}).Write([]byte{98, 99}) != sha.New().Write([]byte{97, 98, 99}) {
		t.Error("abc in two pieces is another Hash than in one")
	}
	if zero.Len() != 0 {
		t.Error("the zero Hash has bytes")
	}
}

// P4.3: steps without a rule on a growing list of Hashes: all of them are asked again at the end.
func TestStepsOfHashes(t *testing.T) {
	r := someRand()
	for range 150 {
		all := []kept{{sha.New(), nil}, {sha.Hash{}, nil}}
		for range 60 {
			k := all[r.IntN(len(all))]
			p := someBytes(r, pieceSize(r, len(k.bytes)))
			all = append(all, kept{k.hash.Write(p), slices.Concat(k.bytes, p)})
			checkHash(t, k)
			checkHash(t, all[r.IntN(len(all))])
		}
		for _, k := range all {
			checkHash(t, k)
			if k.hash != sha.New().Write(k.bytes) {
				t.Errorf("%d bytes in pieces are another Hash than in one", len(k.bytes))
			}
		}
	}
}

// P4.3: each cut of a list in two, with empty pieces between.
func TestHashesOfEveryCut(t *testing.T) {
	r := someRand()
	for _, n := range []int{1, 55, 56, 63, 64, 65, 119, 120, 128, 129, 192, 200} {
		p := someBytes(r, n)
		whole := sha.New().Write(p)
		for i := range n + 1 {
			h := sha.New().Write(nil).Write(p[:i]).Write([]byte{}).Write(p[i:]).Write(nil)
			if h != whole {
				t.Errorf("%d bytes cut at %d are another Hash", n, i)
			}
			checkHash(t, kept{h, p})
		}
	}
}

// P4.3: pieces of one size, from single bytes up.
func TestHashesInLikePieces(t *testing.T) {
	p := someBytes(someRand(), 1000)
	for size := 1; size <= 130; size++ {
		h := sha.New()
		taken := 0
		for piece := range slices.Chunk(p, size) {
			h = h.Write(piece)
			taken += len(piece)
			if h != sha.New().Write(p[:taken]) {
				t.Fatalf("%d bytes in pieces of %d are another Hash", taken, size)
			}
		}
		checkHash(t, kept{h, p})
	}
}

// P4.3: Hashes that took in other bytes aren't equal: they'd have to answer two digests.
func TestOtherBytesOtherHash(t *testing.T) {
	seen := map[sha.Hash]int{}
	p := make([]byte, 300)
	for n := range p {
		h := sha.New().Write(p[:n])
		if at, ok := seen[h]; ok {
			t.Errorf("%d and %d noughts are one Hash", at, n)
		}
		seen[h] = n
	}
	for _, n := range []int{1, 63, 64, 65, 128, 130} {
		for i := range n {
			q := make([]byte, n)
			q[i] = 1
			if sha.New().Write(q) == sha.New().Write(p[:n]) {
				t.Errorf("lists of %d bytes that part at %d are one Hash", n, i)
			}
		}
	}
}

// P4.3: a Hash and its copy, carried on apart, asked on the way and written to afterwards.
func TestHashesGoTheirOwnWays(t *testing.T) {
	r := someRand()
	for _, n := range lengths()[:34] {
		p, q, s := someBytes(r, n), someBytes(r, 70), someBytes(r, 131)
		first := sha.New().Write(p)
		copied := first
		first.Write(q)
		second := copied.Write(q)
		copied.Sum()
		third := first.Write(s)
		checkHash(t, kept{first, p})
		checkHash(t, kept{copied, p})
		checkHash(t, kept{second, slices.Concat(p, q)})
		checkHash(t, kept{third, slices.Concat(p, s)})
		checkHash(t, kept{third.Write(q), slices.Concat(p, s, q)})
		if first != copied || first == second || second == third {
			t.Errorf("Hashes of %d bytes have mixed", n)
		}
		d := first.Sum()
		d[0]++
		if first.Sum() == d {
			t.Error("a digest that was changed changes the next one")
		}
	}
}
