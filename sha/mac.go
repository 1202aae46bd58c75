package sha

const (
	innerMask = 0x36
	outerMask = 0x5C
)

// A Mac is a keyed digest under way: a value, as a Hash is.
type Mac struct {
	key   [blockSize]byte // the key, or a long key's digest, and noughts behind it
	inner Hash            // the inner digest under way; a new one, while no byte has come in: see begun
}

// NewMac: the Mac of that key that has taken in nothing.
func NewMac(key []byte) Mac {
	if len(key) > blockSize {
		d := Sum(key)
		key = d[:]
	}
	var m Mac
	copy(m.key[:], key)
	return m
}

// Write: the Mac of m's key that has taken in what m has, and then p.
func (m Mac) Write(p []byte) Mac {
	if len(p) > 0 {
		m.inner = m.begun().Write(p)
	}
	return m
}

// begun: the inner digest so far. Its key bytes aren't taken in till the first byte of the message comes: the zero Mac has to be one of the empty key.
func (m Mac) begun() Hash {
	if m.inner.Len() == 0 {
		return masked(m.key, innerMask)
	}
	return m.inner
}

// masked: the Hash that has taken in the key bytes, each xor the mask.
func masked(key [blockSize]byte, mask byte) Hash {
	for i := range key {
		key[i] ^= mask
	}
	return New().Write(key[:])
}

// Sum: the keyed digest of what m has taken in.
func (m Mac) Sum() [32]byte {
	inner := m.begun().Sum()
	return masked(m.key, outerMask).Write(inner[:]).Sum()
}

// Hmac: the keyed digest of a message.
func Hmac(key, message []byte) [32]byte {
	return NewMac(key).Write(message).Sum()
}
