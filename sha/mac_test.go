package sha_test

import (
	"crypto/hmac"
	"crypto/sha256"
	"slices"
	"strings"
	"testing"

	"weir/sha"
)

// libraryHmac: the keyed digest by the library.
func libraryHmac(key, message []byte) [32]byte {
	m := hmac.New(sha256.New, key)
	m.Write(message)
	return [32]byte(m.Sum(nil))
}

// keySizes: none, few, those round a block, and long ones.
func keySizes() []int {
	return []int{0, 1, 2, 20, 31, 32, 33, 55, 56, 62, 63, 64, 65, 66, 80, 127, 128, 129, 131, 1000}
}

// P4.4: keyed digests that are known.
func TestKnownKeyedDigests(t *testing.T) {
	upTo25 := make([]byte, 25)
	for i := range upTo25 {
		upTo25[i] = byte(i + 1)
	}
	rows := []struct{ key, message, want string }{
		{"", "", "b613679a0814d9ec772f95d778c35fc5ff1697c493715653c6c712144292c5ad"},
		{strings.Repeat("\x0b", 20), "Hi There", "b0344c61d8db38535ca8afceaf0bf12b881dc200c9833da726e9376c2e32cff7"},
		{"Jefe", "what do ya want for nothing?", "5bdcc146bf60754e6a042426089575c75a003f089d2739839dec58b964ec3843"},
		{strings.Repeat("\xaa", 20), strings.Repeat("\xdd", 50), "773ea91e36800e46854db8ebd09181a72959098b3ef8c122d9635514ced565fe"},
		{string(upTo25), strings.Repeat("\xcd", 50), "82558a389a443c0ea4cc819899f2083a85f0faa3e578f8077a2e3ff46729665b"},
		{strings.Repeat("\xaa", 131), "Test Using Larger Than Block-Size Key - Hash Key First", "60e431591ee0b67f0d8a26aacbf5b77f8e0bc6213728c5140546040f0ee37f54"},
		{"key", "The quick brown fox jumps over the lazy dog", "f7bc83f430538424b13298e6aa6fb143ef4d59a14946175997479dbc2d1a3cd8"},
	}
	for _, row := range rows {
		if got := hexOf(sha.Hmac([]byte(row.key), []byte(row.message))); got != row.want {
			t.Errorf("Hmac(%.20q, %.20q) = %s, want %s", row.key, row.message, got, row.want)
		}
	}
}

// P4.4: by the chapter's words.
func TestHmacByTheWords(t *testing.T) {
	o, r := newOracle(), someRand()
	for _, k := range keySizes() {
		for _, n := range []int{0, 1, 23, 24, 55, 56, 63, 64, 65, 119, 120, 128} {
			key, message := someBytes(r, k), someBytes(r, n)
			if got, want := sha.Hmac(key, message), o.hmac(key, message); got != want {
				t.Errorf("Hmac of %d bytes under %d: %x, want %x", n, k, got, want)
			}
		}
	}
}

// P4.4: by the library, for keys and messages of every length.
func TestHmacByTheLibrary(t *testing.T) {
	r := someRand()
	for k := range 140 {
		for _, n := range append(lengths(), r.IntN(500), r.IntN(5000)) {
			key, message := someBytes(r, k), someBytes(r, n)
			if got, want := sha.Hmac(key, message), libraryHmac(key, message); got != want {
				t.Fatalf("Hmac of %d bytes under %d: %x, want %x", n, k, got, want)
			}
		}
	}
	long := someBytes(r, 100000)
	if sha.Hmac(long, long) != libraryHmac(long, long) {
		t.Error("a long message under a long key")
	}
	if sha.Hmac(nil, nil) != sha.Hmac([]byte{}, []byte{}) || sha.Hmac(nil, long) != sha.Hmac([]byte{}, long) {
		t.Error("nil isn't the empty list")
	}
}

// P4.4 and P4.5: noughts behind a key make no other key up to 64 bytes, and do beyond; a long key is its digest.
func TestKeysThatAreOne(t *testing.T) {
	r := someRand()
	message := someBytes(r, 77)
	for _, n := range []int{0, 1, 31, 32, 60, 63, 64} {
		key := someBytes(r, n)
		for more := range 65 - n {
			same := append(slices.Clone(key), make([]byte, more)...)
			if sha.Hmac(same, message) != sha.Hmac(key, message) {
				t.Errorf("a key of %d bytes and %d noughts is another key", n, more)
			}
			if sha.NewMac(same).Write(message).Sum() != sha.NewMac(key).Write(message).Sum() {
				t.Errorf("a Mac's key of %d bytes and %d noughts is another key", n, more)
			}
		}
		tooLong := append(slices.Clone(key), make([]byte, 65-n)...)
		if sha.Hmac(tooLong, message) == sha.Hmac(key, message) {
			t.Errorf("a key of %d bytes filled up to 65 is the same key", n)
		}
	}
	for _, n := range []int{65, 66, 100, 128, 1000} {
		key := someBytes(r, n)
		d := sha.Sum(key)
		if sha.Hmac(key, message) != sha.Hmac(d[:], message) || sha.NewMac(key).Write(message).Sum() != sha.NewMac(d[:]).Write(message).Sum() {
			t.Errorf("a key of %d bytes isn't its digest", n)
		}
	}
	whole := someBytes(r, 64)
	if d := sha.Sum(whole); sha.Hmac(whole, message) == sha.Hmac(d[:], message) {
		t.Error("a key of 64 bytes is taken as its digest")
	}
}

// A keptMac is a Mac and, beside it, its key and the bytes that it has taken in.
type keptMac struct {
	mac        sha.Mac
	key, bytes []byte
}

func checkMac(t *testing.T, k keptMac) {
	t.Helper()
	if got, want := k.mac.Sum(), libraryHmac(k.key, k.bytes); got != want {
		t.Errorf("the keyed digest of %d bytes under %d is %x, want %x", len(k.bytes), len(k.key), got, want)
	}
}

// P4.5: the zero Mac is one of the empty key.
func TestZeroMac(t *testing.T) {
	var zero sha.Mac
	r := someRand()
	checkMac(t, keptMac{zero, nil, nil})
	checkMac(t, keptMac{sha.NewMac(nil), nil, nil})
	checkMac(t, keptMac{sha.NewMac([]byte{}), nil, nil})
	checkMac(t, keptMac{zero.Write(nil), nil, nil})
	for _, n := range lengths() {
		p := someBytes(r, n)
		checkMac(t, keptMac{zero.Write(p), nil, p})
		checkMac(t, keptMac{zero.Write(nil).Write(p[:n/2]).Write(p[n/2:]), nil, p})
		if sha.NewMac(nil).Write(p) != sha.NewMac([]byte{}).Write(nil).Write(p[:n/3]).Write(p[n/3:]) {
			t.Errorf("Macs of no key and %d bytes aren't equal", n)
		}
		if zero.Write(p[:n/3]).Write(p[n/3:]) != zero.Write(p) {
			t.Errorf("zero Macs written %d bytes aren't equal", n)
		}
	}
}

// P4.5: steps without a rule on a growing list of Macs of several keys.
func TestStepsOfMacs(t *testing.T) {
	r := someRand()
	for range 80 {
		all := []keptMac{{sha.Mac{}, nil, nil}}
		for range 3 {
			key := someBytes(r, keySizes()[r.IntN(len(keySizes()))])
			all = append(all, keptMac{sha.NewMac(key), key, nil})
		}
		for range 50 {
			k := all[r.IntN(len(all))]
			p := someBytes(r, pieceSize(r, len(k.bytes)))
			all = append(all, keptMac{k.mac.Write(p), k.key, slices.Concat(k.bytes, p)})
			checkMac(t, k)
			checkMac(t, all[r.IntN(len(all))])
		}
		for _, k := range all {
			checkMac(t, k)
			if len(k.key) > 0 && k.mac != sha.NewMac(slices.Clone(k.key)).Write(k.bytes) {
				t.Errorf("%d bytes in pieces are another Mac than in one", len(k.bytes))
			}
		}
	}
}

// P4.5: each cut of a message in two, with empty pieces between.
func TestMacsOfEveryCut(t *testing.T) {
	r := someRand()
	for _, size := range []int{0, 1, 63, 64, 65, 200} {
		key, p := someBytes(r, size), someBytes(r, 140)
		begun := sha.NewMac(key)
		if begun.Write(nil) != begun || begun.Write([]byte{}).Write(nil) != sha.NewMac(slices.Clone(key)) {
			t.Errorf("writing nothing makes another Mac of a key of %d bytes", size)
		}
		whole := begun.Write(p)
		for i := range len(p) + 1 {
			m := begun.Write(nil).Write(p[:i]).Write([]byte{}).Write(p[i:]).Write(nil)
			if m != whole {
				t.Errorf("a message cut at %d is another Mac", i)
			}
			checkMac(t, keptMac{m, key, p})
			checkMac(t, keptMac{begun.Write(p[:i]), key, p[:i]})
		}
	}
}

// P4.5: Macs that part in their keys or bytes aren't equal.
func TestOtherBytesOtherMac(t *testing.T) {
	seen := map[sha.Mac]bool{}
	count := 0
	for _, key := range []string{"a", "b", "ab", "a\x00b", strings.Repeat("a", 64), strings.Repeat("a", 65)} {
		for n := range 200 {
			seen[sha.NewMac([]byte(key)).Write(make([]byte, n))] = true
			count++
		}
	}
	if len(seen) != count {
		t.Errorf("of %d Macs only %d are told apart", count, len(seen))
	}
}

// P4.5: a Mac and its copy, carried on apart, asked on the way and written to afterwards.
func TestMacsGoTheirOwnWays(t *testing.T) {
	r := someRand()
	for _, n := range lengths()[:34] {
		key, p, q, s := someBytes(r, n), someBytes(r, n), someBytes(r, 70), someBytes(r, 131)
		first := sha.NewMac(key).Write(p)
		copied := first
		first.Write(q)
		second := copied.Write(q)
		copied.Sum()
		third := first.Write(s)
		checkMac(t, keptMac{first, key, p})
		checkMac(t, keptMac{copied, key, p})
		checkMac(t, keptMac{second, key, slices.Concat(p, q)})
		checkMac(t, keptMac{third, key, slices.Concat(p, s)})
		checkMac(t, keptMac{third.Write(q), key, slices.Concat(p, s, q)})
		if first != copied || first == second || second == third {
			t.Errorf("Macs of %d bytes have mixed", n)
		}
	}
}
