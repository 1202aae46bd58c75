package sha_test

import (
	"bytes"
	"crypto/sha256"
	"encoding/hex"
	"math"
	"slices"
	"strings"
	"testing"

	"weir/sha"
)

func hexOf(d [32]byte) string { return sha.Hex(d[:]) }

// P4.1: each word, by its root.
func TestWordsByTheirRoots(t *testing.T) {
	o := newOracle()
	for i, want := range o.starts {
		if got := sha.Start(i); int64(got) != want {
			t.Errorf("Start(%d) = %x, want %x", i, got, want)
		}
	}
	for i, want := range o.rounds {
		if got := sha.Round(i); int64(got) != want {
			t.Errorf("Round(%d) = %x, want %x", i, got, want)
		}
	}
}

// P4.1: the examples, and the words that there aren't.
func TestWordsAtTheEdges(t *testing.T) {
	if sha.Start(0) != 0x6A09E667 || sha.Start(7) != 0x5BE0CD19 || sha.Round(0) != 0x428A2F98 || sha.Round(63) != 0xC67178F2 {
		t.Error("the words of the examples are others")
	}
	wrong := []int{-1, -2, -8, -64, 64, 65, 128, 256, 1 << 32, -1 << 32, 1<<32 + 1, math.MaxInt32, math.MinInt32, math.MaxInt - 1, math.MaxInt, math.MinInt, math.MinInt + 1}
	for _, i := range wrong {
		if sha.Round(i) != 0 || sha.Start(i) != 0 {
			t.Errorf("there are words number %d", i)
		}
	}
	for i := 8; i < 64; i++ {
		if sha.Start(i) != 0 {
			t.Errorf("Start(%d) isn't 0", i)
		}
	}
}

// P4.2: the examples and other digests that are known.
func TestKnownDigests(t *testing.T) {
	rows := []struct{ text, want string }{
		{"", "e3b0c44298fc1c149afbf4c8996fb92427ae41e4649b934ca495991b7852b855"},
		{"abc", "ba7816bf8f01cfea414140de5dae2223b00361a396177a9cb410ff61f20015ad"},
		{"abcdbcdecdefdefgefghfghighijhijkijkljklmklmnlmnomnopnopq", "248d6a61d20638b8e5c026930c3e6039a33ce45964ff2167f6ecedd419db06c1"},
		{"abcdefghbcdefghicdefghijdefghijkefghijklfghijklmghijklmnhijklmnoijklmnopjklmnopqklmnopqrlmnopqrsmnopqrstnopqrstu", "cf5b16a778af8380036ce59e7b0492370b249b11e8f07a51afac45037afee9d1"},
		{strings.Repeat("a", 1000000), "cdc76e5c9914fb9281a1c7e284d73e67f1809a48a497200e046d39ccc7112cd0"},
	}
	for _, row := range rows {
		if got := hexOf(sha.Sum([]byte(row.text))); got != row.want {
			t.Errorf("Sum of %.20q: %s, want %s", row.text, got, row.want)
		}
	}
	if sha.Sum(nil) != sha.Sum([]byte{}) {
		t.Error("nil isn't the empty list")
	}
}

// P4.2: lists of every length, of like bytes and of bytes without a rule, by the chapter's words.
func TestSumByTheWords(t *testing.T) {
	o, r := newOracle(), someRand()
	for n := range 270 {
		for _, p := range [][]byte{someBytes(r, n), make([]byte, n), bytes.Repeat([]byte{255}, n), bytes.Repeat([]byte{0x80}, n)} {
			if got, want := sha.Sum(p), o.sum(p); got != want {
				t.Fatalf("Sum of %x: %x, want %x", p, got, want)
			}
		}
	}
}

// P4.2: the same by the library, with long lists too.
func TestSumByTheLibrary(t *testing.T) {
	r := someRand()
	sizes := append(lengths(), 65535, 65536, 1<<20-9, 1<<20+1)
	for range 2000 {
		sizes = append(sizes, r.IntN(600))
	}
	for _, n := range sizes {
		p := someBytes(r, n)
		if got, want := sha.Sum(p), sha256.Sum256(p); got != want {
			t.Fatalf("Sum of %d bytes: %x, want %x", n, got, want)
		}
	}
}

// P4.2: a length whose bits don't fit in 32 of them.
func TestSumOfAListAboveTwoToThe29(t *testing.T) {
	if testing.Short() {
		t.Skip("long")
	}
	p, want := make([]byte, 1<<20), sha256.New()
	h := sha.New()
	for range 513 {
		h = h.Write(p)
		want.Write(p)
	}
	if got := h.Sum(); !bytes.Equal(got[:], want.Sum(nil)) || h.Len() != 513<<20 {
		t.Errorf("the digest of %d noughts is %x", h.Len(), got)
	}
}

// P4.6: the examples and each way to part.
func TestEqual(t *testing.T) {
	r := someRand()
	for _, n := range append(lengths(), 16, 17) {
		a := someBytes(r, n)
		if b := slices.Clone(a); !sha.Equal(a, b) || !sha.Equal(a, a) {
			t.Errorf("the same %d bytes aren't equal", n)
		}
		if n > 300 {
			continue
		}
		for i := range a {
			for bit := range 8 {
				b := slices.Clone(a)
				b[i] ^= 1 << bit
				if sha.Equal(a, b) || sha.Equal(b, a) {
					t.Errorf("lists of %d bytes that part at %d in bit %d are equal", n, i, bit)
				}
			}
			if sha.Equal(a, a[:i]) || sha.Equal(a[:i], a) {
				t.Errorf("a list of %d bytes and its first %d are equal", n, i)
			}
		}
	}
}

// P4.6: lengths alone, and lists that part in two places at once.
func TestEqualAtTheEdges(t *testing.T) {
	if !sha.Equal(nil, []byte{}) || !sha.Equal([]byte{}, nil) || !sha.Equal(nil, nil) {
		t.Error("the empty lists aren't equal")
	}
	wrong := [][2][]byte{
		{nil, {0}}, {{0}, nil}, {{0}, {0, 0}}, {{0, 0}, {0}}, {{1}, {1, 1}}, {{1, 2}, {2, 1}}, {{1, 2}, {1, 3}},
		{{1, 0, 1}, {0, 0, 0}}, {{0, 255}, {255, 0}}, {{128}, {0}}, {{1, 2, 3}, {2, 3}}, {{7, 7}, {6, 6}},
		{make([]byte, 256), nil}, {make([]byte, 257), make([]byte, 1)},
	}
	for _, w := range wrong {
		if sha.Equal(w[0], w[1]) {
			t.Errorf("%v and %v are equal", w[0], w[1])
		}
	}
}

// P4.6: each byte's two digits, and lists of them.
func TestHex(t *testing.T) {
	all := make([]byte, 256)
	for i := range all {
		all[i] = byte(i)
		if got, want := sha.Hex(all[i:i+1]), hex.EncodeToString(all[i:i+1]); got != want {
			t.Errorf("Hex of %d: %s, want %s", i, got, want)
		}
	}
	r := someRand()
	for _, p := range [][]byte{nil, {}, {0, 171}, {0}, {255, 0, 16}, all, someBytes(r, 33), someBytes(r, 5000)} {
		if got, want := sha.Hex(p), hex.EncodeToString(p); got != want {
			t.Errorf("Hex of %x: %s", p, got)
		}
	}
	if sha.Hex([]byte{0, 171}) != "00ab" || sha.Hex(nil) != "" {
		t.Error("Hex of the examples")
	}
}
