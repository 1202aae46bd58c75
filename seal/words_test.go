package seal_test

import (
	"crypto/hmac"
	"crypto/sha256"
	"math/big"
	"math/rand/v2"
	"strings"

	"weir/api"
)

// The chapter's words, written down a second time and in another way, to hold the package against: bits as texts of 0 and 1, numbers without an end, the library's HMAC.

// letters: the alphabet, from value 0 on.
func letters() string {
	var b strings.Builder
	for _, span := range [][2]rune{{'A', 'Z'}, {'a', 'z'}, {'0', '9'}, {'-', '-'}, {'_', '_'}} {
		for r := span[0]; r <= span[1]; r++ {
			b.WriteRune(r)
		}
	}
	return b.String()
}

// bits: the lowest n bits of v as a text, the highest first.
func bits(v, n int) string {
	out := ""
	for range n {
		out = string(rune('0'+v%2)) + out
		v /= 2
	}
	return out
}

// worth: the number that a text of bits stands for.
func worth(text string) int {
	v := 0
	for _, r := range text {
		v = 2*v + int(r-'0')
	}
	return v
}

// wordsEncode: Encode.
func wordsEncode(b string) string {
	var all, out strings.Builder
	for i := range len(b) {
		all.WriteString(bits(int(b[i]), 8))
	}
	text := all.String()
	for len(text)%6 != 0 {
		text += "0"
	}
	for ; text != ""; text = text[6:] {
		out.WriteByte(letters()[worth(text[:6])])
	}
	return out.String()
}

// wordsDecode: Decode, by the three faults that the chapter names; "" beside a fault.
func wordsDecode(s string) (string, api.Errno) {
	var all strings.Builder
	for i := range len(s) {
		v := strings.IndexByte(letters(), s[i])
		if v < 0 {
			return "", api.ErrBase64
		}
		all.WriteString(bits(v, 6))
	}
	text := all.String()
	if len(s)%4 == 1 {
		return "", api.ErrBase64
	}
	out := ""
	for ; len(text) >= 8; text = text[8:] {
		out += string([]byte{byte(worth(text[:8]))})
	}
	if strings.Contains(text, "1") {
		return "", api.ErrBase64
	}
	return out, api.OK
}

// wordsPack: the payload; no claim is too long for it.
func wordsPack(c api.Claim) string {
	n := big.NewInt(c.Expiry)
	if n.Sign() < 0 { // two's complement
		n.Add(n, new(big.Int).Lsh(big.NewInt(1), 64))
	}
	return string(n.FillBytes(make([]byte, 8))) + c.Policy
}

// wordsUnpack: the claim of a payload of 8 bytes or more.
func wordsUnpack(b string) api.Claim {
	n := new(big.Int).SetBytes([]byte(b[:8]))
	if b[0] >= 0x80 {
		n.Sub(n, new(big.Int).Lsh(big.NewInt(1), 64))
	}
	return api.Claim{Expiry: n.Int64(), Policy: b[8:]}
}

// wordsTag: the payload's tag.
func wordsTag(key []byte, payload string) string {
	m := hmac.New(sha256.New, key)
	m.Write([]byte(payload))
	return string(m.Sum(nil))
}

// sealed: a payload, of any length, and its right tag, as a token is written.
func sealed(key []byte, payload string) string {
	return wordsEncode(payload) + "." + wordsEncode(wordsTag(key, payload))
}

// wordsOpen: Open.
func wordsOpen(key []byte, token string) (api.Claim, api.Errno) {
	if len(token) > 4096 {
		return api.Claim{}, api.ErrLong
	}
	sides := strings.Split(token, ".")
	if len(sides) != 2 {
		return api.Claim{}, api.ErrToken
	}
	payload, e := wordsDecode(sides[0])
	tag, other := wordsDecode(sides[1])
	switch {
	case e != api.OK || other != api.OK:
		return api.Claim{}, api.ErrBase64
	case tag != wordsTag(key, payload):
		return api.Claim{}, api.ErrTag
	case len(payload) < 8:
		return api.Claim{}, api.ErrPayload
	case len(payload) > 8+1024:
		return api.Claim{}, api.ErrLong
	}
	return wordsUnpack(payload), api.OK
}

func someRand() *rand.Rand { return rand.New(rand.NewPCG(5, 64)) }

// someText: n bytes without a rule.
func someText(r *rand.Rand, n int) string {
	out := make([]byte, n)
	for i := range out {
		out[i] = byte(r.Uint32())
	}
	return string(out)
}

// someLetters: n letters of the alphabet without a rule.
func someLetters(r *rand.Rand, n int) string {
	out := make([]byte, n)
	for i := range out {
		out[i] = letters()[r.IntN(64)]
	}
	return string(out)
}

// lengths: few, those of payloads and tokens at their ends, and others.
func lengths() []int {
	return []int{0, 1, 2, 3, 4, 5, 6, 7, 8, 9, 10, 11, 12, 31, 32, 33, 63, 64, 65, 255, 256, 257, 1023, 1024, 1025, 1031, 1032, 1033, 4096}
}
