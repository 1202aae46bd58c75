package seal

import (
	"strings"

	"weir/api"
)

// alphabet: the letters of base64url, each at its value's place.
const alphabet = "ABCDEFGHIJKLMNOPQRSTUVWXYZabcdefghijklmnopqrstuvwxyz0123456789-_"

const (
	byteBits   = 8
	letterBits = 6
)

// Encode: the base64url text of b, without padding.
func Encode(b []byte) string {
	values, rest, left := regrouped(b, byteBits, letterBits)
	if left > 0 {
		values = append(values, rest<<(letterBits-left))
	}
	for i, v := range values {
		values[i] = alphabet[v]
	}
	return string(values)
}

// Decode: the bytes of which Encode answers s.
func Decode(s string) ([]byte, api.Errno) {
	values := make([]byte, 0, len(s))
	for i := range len(s) {
		v := strings.IndexByte(alphabet, s[i])
		if v < 0 {
			return nil, api.ErrBase64
		}
		values = append(values, byte(v))
	}
	b, rest, left := regrouped(values, letterBits, byteBits)
	// A whole letter left over gives no byte, and bits other than 0 would be a second text of the same bytes.
	if left >= letterBits || rest != 0 {
		return nil, api.ErrBase64
	}
	return b, api.OK
}

// regrouped: the bits of values, each of which counts for from of them, cut from the front into whole groups of to bits; behind them the bits that are left over, and how many those are.
func regrouped(values []byte, from, to uint) (groups []byte, rest byte, left uint) {
	groups = make([]byte, 0, uint(len(values))*from/to+1) // one more than are whole: Encode fills up a last one
	held := uint(0)
	for _, v := range values {
		held = held<<from | uint(v)
		left += from
		for left >= to {
			left -= to
			groups = append(groups, byte(held>>left))
			held &= 1<<left - 1
		}
	}
	return groups, byte(held), left
}
